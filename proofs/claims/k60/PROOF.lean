import PyProof.Rows.All
import Wide.All
import OpenK.AllK
import Wide.FinOn
import Lean
import PyProof.EqAt
import PyProof.EqKinds
import PyProof.TupleCall
import PyProof.Cells
import KE.KLam
import KE.KNestM
import KE.KSortTup
import PyProof.SetRoads
import PyProof.Rows.SetFrom
import KE.KTryMore
import KE.KIsAll
import PyProof.ExcBaseAll.ValueError
import PyProof.NsDelKeeps
import PyProof.ExcArgsOwn
import PySem.Challenge.RW_splithouse_k60_told_twice
-- CHANGE: your row's module here, as the last of these rows
set_option Elab.async false
set_option linter.all false
set_option maxRecDepth 100000
/-! THE HAND LAYER, for ints, bools, texts, own classes, LISTS and tuples (index, slices, in, append, pop ..), calls, loops. Paste it whole ahead of your own text; what your proof does not reach may be deleted. -/
namespace L2
open PySem PySem.Spec PyProof.Rows

/-- a key: an int or a str -/
noncomputable abbrev Key := Sum Int Str
noncomputable def keyIs : Key → Value → Bool
  | .inl k, v => Value.isInt k v
  | .inr x, v => Value.isStrOf x v
noncomputable def keyH (w : World) : Key → Int
  | .inl k => hashInt k
  | .inr x => hashStr w x
theorem keyIs_shape : ∀ {k : Key} {v : Value}, keyIs k v = true → (∃ i t, k = Sum.inl i ∧ v = Value.int i t) ∨ (∃ x t, k = Sum.inr x ∧ v = Value.str x t)
  | .inl i, v, h => by
    obtain ⟨t, e⟩ := Value.isInt_shape (k := i) (v := v) h
    exact .inl ⟨i, t, rfl, e⟩
  | .inr x, v, h => by
    obtain ⟨t, e⟩ := Value.isStrOf_shape (x := x) (v := v) h
    exact .inr ⟨x, t, rfl, e⟩
theorem key_ll (a b : Int) : decide ((Sum.inl a : Key) = Sum.inl b) = (a == b) := by
  by_cases e : a = b
  · subst e; simp
  · have h : ¬ (Sum.inl a : Key) = Sum.inl b := fun q => e (Sum.inl.inj q)
    rw [decide_eq_false h]
    exact (beq_eq_false_iff_ne.mpr e).symm
theorem key_rr (a b : Str) : decide ((Sum.inr a : Key) = Sum.inr b) = decide (a = b) := by
  by_cases e : a = b
  · subst e; simp
  · have h : ¬ (Sum.inr a : Key) = Sum.inr b := fun q => e (Sum.inr.inj q)
    rw [decide_eq_false h, decide_eq_false e]
theorem key_lr (a : Int) (b : Str) : decide ((Sum.inl a : Key) = Sum.inr b) = false := decide_eq_false (fun q => nomatch q)
theorem key_rl (a : Str) (b : Int) : decide ((Sum.inr a : Key) = Sum.inl b) = false := decide_eq_false (fun q => nomatch q)

noncomputable def mixKind (prog : Program) (w : World) : PySem.KeyKind prog w Key where
  is := keyIs
  hash := keyH w
  inj := fun v a b ha hb => by
    rcases keyIs_shape ha with ⟨i, t, rfl, rfl⟩ | ⟨x, t, rfl, rfl⟩
    · rcases keyIs_shape hb with ⟨j, u, rfl, e⟩ | ⟨y, u, rfl, e⟩
      · injection e with e1 _; rw [e1]
      · exact nomatch e
    · rcases keyIs_shape hb with ⟨j, u, rfl, e⟩ | ⟨y, u, rfl, e⟩
      · exact nomatch e
      · injection e with e1 _; rw [e1]
  byValue := fun k v h => by
    rcases keyIs_shape h with ⟨i, t, rfl, rfl⟩ | ⟨x, t, rfl, rfl⟩ <;> rfl
  pyHash := fun hv h => by
    rcases keyIs_shape hv with ⟨i, t, rfl, rfl⟩ | ⟨x, t, rfl, rfl⟩
    · exact wpAny_pyHash_int h
    · exact wpAny_pyHash_str h
  eqBool := fun hu hv h => by
    rcases keyIs_shape hu with ⟨i, t, rfl, rfl⟩ | ⟨x, t, rfl, rfl⟩
    · rcases keyIs_shape hv with ⟨j, u, rfl, rfl⟩ | ⟨y, u, rfl, rfl⟩
      · rw [key_ll] at h; exact wpAny_eqBool_int h
      · rw [key_lr] at h; exact SeqAt.EqAt.int_str i t y u _ _ _ _ h
    · rcases keyIs_shape hv with ⟨j, u, rfl, rfl⟩ | ⟨y, u, rfl, rfl⟩
      · rw [key_rl] at h; exact SeqAt.EqAt.str_int x t j u _ _ _ _ h
      · rw [key_rr] at h; exact wpAny_eqBool_str h
  «strs» := fun k x t v h => by
    rcases keyIs_shape h with ⟨i, u, rfl, e⟩ | ⟨y, u, rfl, e⟩
    · exact nomatch e
    · injection e with e1 _
      subst e1
      cases v <;> rfl

end L2

namespace L2
open PySem PySem.Spec PyProof.Rows

/-- a value, without the heap -/
inductive V where
  | non | bl (b : Bool) | int (i : Int) | str (x : Str) | byt (b : Array UInt8) | flt (b : UInt64) | ref (a : Addr) | ty (n : String)
  deriving DecidableEq

noncomputable def RelV : V → Value → Prop
  | .non, u => u = Value.none
  | .bl b, u => u = Value.bool b
  | .int i, u => ∃ t, u = Value.int i t
  | .str x, u => ∃ t, u = Value.str x t
  | .byt b, u => ∃ t, u = Value.bytes b t
  | .flt b, u => ∃ t, u = Value.float b t
  | .ref a, u => u = Value.ref a
  | .ty n, u => u = Value.type n

noncomputable abbrev Vals : List V → List Value → Prop := Paired RelV
theorem Vals.length {xs : List V} {us : List Value} (r : Vals xs us) : xs.length = us.length := Paired.length r
theorem Vals.get : ∀ {xs : List V} {us : List Value} {i : Nat} {x : V}, Vals xs us → xs[i]? = some x → ∃ u, us[i]? = some u ∧ RelV x u
  | _, _, _, _, .nil, e => by simp at e
  | _, _, 0, _, .cons r _, e => by simp at e; subst e; exact ⟨_, rfl, r⟩
  | _, _, i + 1, x, .cons _ t, e => by
    obtain ⟨u, h1, h2⟩ := Vals.get (i := i) (x := x) t (by simpa using e)
    exact ⟨u, by simpa using h1, h2⟩
theorem Vals.set {x : V} {u : Value} (r : RelV x u) : ∀ {xs : List V} {us : List Value} (i : Nat), Vals xs us → Vals (xs.set i x) (us.set i u)
  | _, _, _, .nil => .nil
  | _, _, 0, .cons _ t => .cons r t
  | _, _, i + 1, .cons q t => .cons q (Vals.set r i t)
theorem Vals.append : ∀ {xs ys : List V} {us ws : List Value}, Vals xs us → Vals ys ws → Vals (xs ++ ys) (us ++ ws)
  | _, _, _, _, .nil, s => s
  | _, _, _, _, .cons r t, s => .cons r (Vals.append t s)
theorem Vals.take : ∀ {xs : List V} {us : List Value} (n : Nat), Vals xs us → Vals (xs.take n) (us.take n)
  | _, _, 0, _ => .nil
  | _, _, _ + 1, .nil => .nil
  | _, _, n + 1, .cons r t => .cons r (Vals.take n t)
theorem Vals.drop : ∀ {xs : List V} {us : List Value} (n : Nat), Vals xs us → Vals (xs.drop n) (us.drop n)
  | _, _, 0, r => r
  | _, _, _ + 1, .nil => .nil
  | _, _, n + 1, .cons _ t => Vals.drop n t
noncomputable def RelO : Option V → Option Value → Prop
  | some v, some u => RelV v u
  | none, none => True
  | _, _ => False
noncomputable def KV {κ : Type} : List (κ × V) → List (κ × Value) → Prop := Paired fun (p : κ × V) (q : κ × Value) => p.1 = q.1 ∧ RelV p.2 q.2

/-- a key of a dict (00_mix): an int or a text -/
noncomputable def kV : Key → V
  | .inl i => .int i
  | .inr x => .str x

/-- what stands at a tracked address -/
inductive HO where
  /-- a list -/
  | lst (xs : List V)
  /-- a tuple (never changes) -/
  | tup (xs : List V)
  /-- a dict whose keys are ints and texts; one whose keys are tuples of ints and texts (the empty one is both) -/
  | dK (kvs : List (Key × V)) | dT (kvs : List (List Key × V))
  /-- a set of ints: its members, its size -/
  | set (S : Int → Bool) (n : Nat)
  /-- an instance of the class at C, its dict at dx, its attributes -/
  | ins (C dx : Addr) (fs : List (Str × V))
  /-- the dict of the instance at x -/
  | own (x : Addr)
  /-- the dict of an exception -/
  | xd (fs : List (Str × V))
  /-- a bound method, f of x -/
  | met (f x : Addr)
  /-- a range object lo, lo + 1, .. below hi -/
  | rng (lo hi : Int)
  /-- a thing that is known to the object (the script; a dict while a loop walks it): read, never written while it is so -/
  | frz (o : Obj) (u : HO)
  /-- a code object's table -/
  | tbl (ps : Array Value)
  /-- any other thing, by what is true of its one object (a def of one's own: SetO a S n := HO.ext fun h => ..) -/
  | ext (φ : Heap → Prop)

noncomputable abbrev Hp := Addr → Option HO
noncomputable def upd (H : Hp) (a : Addr) (o : HO) : Hp := fun b => if b = a then some o else H b
theorem upd_same {H : Hp} {a : Addr} {o : HO} : upd H a o a = some o := by unfold upd; rw [if_pos rfl]
theorem upd_ne {H : Hp} {a b : Addr} {o : HO} (h : b ≠ a) : upd H a o b = H b := by unfold upd; rw [if_neg h]
/-- two objects of different content stand apart -/
theorem ne_of {H : Hp} {a b : Addr} {o u : HO} (h : H a = some o) (h' : H b = some u) (d : o ≠ u) : a ≠ b := by
  intro e; subst e; rw [h] at h'; exact d (Option.some.inj h')
theorem ne_of_none {H : Hp} {a b : Addr} {o : HO} (h : H a = some o) (h' : H b = none) : a ≠ b := by
  intro e; subst e; rw [h] at h'; cases h'

section
variable (P : Program) (w : World)
noncomputable def ObjOk (H : Hp) (h : Heap) (a : Addr) : HO → Prop
  | .lst xs => xs.length ≤ sizeLine ∧ ∃ (its : List Value) (n : Nat), Vals xs its ∧ h.get? a = some { cls := .type "list", data := .seq its.toArray n }
  | .tup xs => xs.length ≤ sizeLine ∧ ∃ its : List Value, Vals xs its ∧ IsTup h a its.toArray
  | .dK kvs => kvs.length ≤ sizeLine ∧ (a == sysModules) = false ∧ ∃ vs, KV kvs vs ∧ h.DictOf (mixKind P w) a vs
  | .dT kvs => kvs.length ≤ sizeLine ∧ (a == sysModules) = false ∧ ∃ xs : List (List Key × Addr × Value),
      Paired (fun (p : List Key × V) (q : List Key × Addr × Value) => p.1 = q.1 ∧ H q.2.1 = some (.tup (p.1.map kV)) ∧ RelV p.2 q.2.2) kvs xs ∧
      ∃ o es ep, h.get? a = some o ∧ o.ExactDict ∧ o.data = .dict es ep ∧ es.toList = xs.map (entryOfKey (tupleKind (mixKind P w))) ∧ (xs.map (·.1)).Nodup
  | .set S n => h.SetOf (intKind P w) a S n
  | .ins C dx fs => H dx = some (.own a) ∧ fs.length ≤ 1000 ∧ dx ≠ a ∧ h.get? a = some (PySem.W.instObj C dx) ∧
      ∃ mA, h.Ns1 dx mA ∧ (∀ f, RelO (fs.lookup f) (mA f)) ∧ PySem.Within mA (fs.map (·.1))
  | .own _ => ∃ o, h.get? a = some o
  | .xd fs => ∃ mA, h.Ns1 a mA ∧ ∀ f, RelO (fs.lookup f) (mA f)
  | .rng lo hi => ∃ t u v, h.get? a = some { cls := .type "range", data := .fields #[.int lo t, .int hi u, .int 1 v] }
  | .frz o u => h.get? a = some o ∧ ObjOk H h a u
  | .tbl ps => h.get? a = some { cls := .none, data := .fields ps }
  | .met f x => h.get? a = some (PySem.W.methodObj (.ref f) (.ref x))
  | .ext φ => φ h ∧ (∃ o, h.get? a = some o) ∧ ∀ h1 h2 : Heap, φ h1 → (∀ o, h1.get? a = some o → h2.get? a = some o) → φ h2
/-- the abstract heap is held -/
noncomputable def HOk (H : Hp) (h : Heap) : Prop := ∀ a o, H a = some o → ObjOk P w H h a o
end

section
variable {P : Program} {w : World} {H H' : Hp} {h h' : Heap} {a : Addr} {o : HO}
theorem ObjOk.lt (x : ObjOk P w H h a o) : a < h.objs.size := by
  cases o with
  | lst xs => obtain ⟨_, _, _, _, e⟩ := x; exact Heap.lt_size e
  | tup xs => obtain ⟨_, _, _, p⟩ := x; exact p.lt
  | dK kvs => obtain ⟨_, _, _, _, o, _, _, e, _⟩ := x; exact Heap.lt_size e
  | dT kvs => obtain ⟨_, _, _, _, o, _, _, e, _⟩ := x; exact Heap.lt_size e
  | set S n => obtain ⟨o, _, _, _, e, _⟩ := x; exact Heap.lt_size e
  | ins C dx fs => obtain ⟨_, _, _, e, _⟩ := x; exact Heap.lt_size e
  | own y => obtain ⟨_, e⟩ := x; exact Heap.lt_size e
  | xd fs => obtain ⟨_, ⟨_, _, _, e, _⟩, _⟩ := x; exact Heap.lt_size e
  | rng lo hi => obtain ⟨_, _, _, e⟩ := x; exact Heap.lt_size e
  | frz ob u => obtain ⟨e, _⟩ := x; exact Heap.lt_size e
  | tbl ps => exact Heap.lt_size (show h.get? a = some _ from x)
  | met f y => exact Heap.lt_size (show h.get? a = some _ from x)
  | ext φ => obtain ⟨_, ⟨_, e⟩, _⟩ := x; exact Heap.lt_size e
theorem Paired.mapP {α β : Type} {F G : α → β → Prop} : ∀ {l₁ : List α} {l₂ : List β}, Paired F l₁ l₂ → (∀ a b, F a b → G a b) → Paired G l₁ l₂
  | _, _, .nil, _ => .nil
  | _, _, .cons r t, f => .cons (f _ _ r) (Paired.mapP t f)
/-- what an object's description leans on: its own object, its own dict, the tuples -/
theorem ObjOk.stay (x : ObjOk P w H h a o) (k : ∀ b u, (b = a ∨ H b = some (.own a)) → h.get? b = some u → h'.get? b = some u)
    (ho : ∀ b, H b = some (.own a) → H' b = some (.own a)) (ht : ∀ b xs, H b = some (.tup xs) → H' b = some (.tup xs)) : ObjOk P w H' h' a o := by
  induction o with
  | lst xs => obtain ⟨z, its, n, r, e⟩ := x; exact ⟨z, its, n, r, k _ _ (.inl rfl) e⟩
  | tup xs => obtain ⟨z, its, r, ob, e, c⟩ := x; exact ⟨z, its, r, ob, k _ _ (.inl rfl) e, c⟩
  | dK kvs => obtain ⟨z, y, vs, r, ob, es, ep, e, c⟩ := x; exact ⟨z, y, vs, r, ob, es, ep, k _ _ (.inl rfl) e, c⟩
  | dT kvs =>
    obtain ⟨z, y, xs, r, ob, es, ep, e, c⟩ := x
    exact ⟨z, y, xs, Paired.mapP r fun p q z => ⟨z.1, ht _ _ z.2.1, z.2.2⟩, ob, es, ep, k _ _ (.inl rfl) e, c⟩
  | set S n => obtain ⟨ob, es, ep, t, e, c⟩ := x; exact ⟨ob, es, ep, t, k _ _ (.inl rfl) e, c⟩
  | ins C dx fs =>
    obtain ⟨d, z, ne, e, mA, ⟨od, es, ep, e2, c⟩, r⟩ := x
    exact ⟨ho _ d, z, ne, k _ _ (.inl rfl) e, mA, ⟨od, es, ep, k _ _ (.inr d) e2, c⟩, r⟩
  | own y => obtain ⟨ob, e⟩ := x; exact ⟨ob, k _ _ (.inl rfl) e⟩
  | xd fs => obtain ⟨mA, ⟨od, es, ep, e, c⟩, r⟩ := x; exact ⟨mA, ⟨od, es, ep, k _ _ (.inl rfl) e, c⟩, r⟩
  | rng lo hi => obtain ⟨t, u, v, e⟩ := x; exact ⟨t, u, v, k _ _ (.inl rfl) e⟩
  | frz ob u ih => obtain ⟨e, q⟩ := x; exact ⟨k _ _ (.inl rfl) e, ih q⟩
  | tbl ps =>
    have e : h.get? a = some { cls := .none, data := .fields ps } := x
    show h'.get? a = some { cls := .none, data := .fields ps }
    exact k a _ (.inl rfl) e
  | met f y =>
    have e : h.get? a = some (PySem.W.methodObj (.ref f) (.ref y)) := x
    show h'.get? a = some (PySem.W.methodObj (.ref f) (.ref y))
    exact k a _ (.inl rfl) e
  | ext φ => obtain ⟨p, ⟨o, e⟩, st⟩ := x; exact ⟨st _ _ p fun o q => k _ _ (.inl rfl) q, ⟨o, k _ _ (.inl rfl) e⟩, st⟩
theorem HOk.lt (x : HOk P w H h) (e : H a = some o) : a < h.objs.size := (x a o e).lt
theorem HOk.fresh (x : HOk P w H h) (e : h.objs.size ≤ a) : H a = none := by
  cases q : H a with
  | none => rfl
  | some u => exact absurd (Nat.lt_of_lt_of_le (x.lt q) e) (Nat.lt_irrefl _)
/-- every object of the heap is kept -/
theorem HOk.kept (x : HOk P w H h) (k : ∀ b u, h.get? b = some u → h'.get? b = some u) : HOk P w H h' := fun a o e =>
  (x a o e).stay (fun b u _ q => k b u q) (fun _ q => q) fun _ _ q => q
/-- a new object is laid and tracked -/
theorem HOk.laid (x : HOk P w H h) (k : ∀ b u, h.get? b = some u → h'.get? b = some u) (hp : h.objs.size ≤ a) (new : ObjOk P w (upd H a o) h' a o) : HOk P w (upd H a o) h' := fun b u e => by
  have hn := x.fresh hp
  by_cases hb : b = a
  · subst hb; rw [upd_same] at e; cases e; exact new
  · rw [upd_ne hb] at e
    exact (x b u e).stay (fun c v _ q => k c v q) (fun c q => by rw [upd_ne (ne_of_none q hn)]; exact q) fun c xs q => by rw [upd_ne (ne_of_none q hn)]; exact q
end

/-- what may be read as u: it is u, or a known u -/
noncomputable def Rd (H : Hp) (a : Addr) (u : HO) : Prop := H a = some u ∨ ∃ o, H a = some (.frz o u)
theorem Rd.ok {P : Program} {w : World} {H : Hp} {h : Heap} {a : Addr} {u : HO} (r : Rd H a u) (x : HOk P w H h) : ObjOk P w H h a u := by
  rcases r with r | ⟨o, r⟩
  · exact x a u r
  · obtain ⟨_, q⟩ := x a _ r
    exact q
/-- what may be written -/
noncomputable def Mut : Option HO → Prop
  | some (.lst _) => True
  | some (.dK _) => True
  | some (.dT _) => True
  | some (.set _ _) => True
  | some (.ins _ _ _) => True
  | some (.ext _) => True
  | _ => False
section
variable {P : Program} {w : World} {H : Hp} {h h' : Heap} {x e : Addr} {o' : HO}
/-- the object at e is changed: x itself, or the dict of the instance x -/
theorem HOk.write (ok : HOk P w H h) (mu : Mut (H x)) (he : e = x ∨ H e = some (.own x)) (k : ∀ b u, b ≠ e → h.get? b = some u → h'.get? b = some u) (heo : ∃ u, h'.get? e = some u)
    (new : ObjOk P w (upd H x o') h' x o') : HOk P w (upd H x o') h' := fun b u q => by
  have nown : ∀ c y, H c = some (.own y) → c ≠ x := fun c y r z => by subst z; rw [r] at mu; exact mu
  have ntup : ∀ c xs, H c = some (.tup xs) → c ≠ x := fun c xs r z => by subst z; rw [r] at mu; exact mu
  by_cases hb : b = x
  · subst hb; rw [upd_same] at q; cases q; exact new
  · rw [upd_ne hb] at q
    by_cases hbe : b = e
    · have q' : H b = some (.own x) := by
        rcases he with z | z
        · exact absurd (hbe.trans z) hb
        · rw [hbe]; exact z
      rw [q] at q'; cases q'
      obtain ⟨v, hv⟩ := heo
      exact ⟨v, by rw [hbe]; exact hv⟩
    · refine (ok b u q).stay (fun c v hc r => k c v ?_ r) (fun c r => by rw [upd_ne (nown c b r)]; exact r) fun c xs r => by rw [upd_ne (ntup c xs r)]; exact r
      rcases hc with rfl | hc
      · exact hbe
      · rintro rfl
        rcases he with z | z
        · exact nown c b hc z
        · rw [hc] at z; cases z; exact hb rfl
end

/-! ### kept unless tracked; of the frames at fs (the callers') the slots may change (an exception that passes writes there); of the records at ex (iterators) nothing is said -/
structure Un (fs ex : List Addr) (H H' : Hp) (h h' : Heap) : Prop where
  keep : ∀ b o, h.get? b = some o → H b = none → b ∉ fs → b ∉ ex → h'.get? b = some o
  slot : ∀ b o, h.get? b = some o → H b = none → b ∈ fs → b ∉ ex → ∃ sl, h'.get? b = some { o with slots := sl }
  free : ∀ b o, h.get? b = some o → H b = none → b ∉ ex → H' b = none
  there : ∀ b o, h.get? b = some o → b ∉ ex → ∃ o', h'.get? b = some o'
  tups : ∀ b xs, H b = some (.tup xs) → H' b = some (.tup xs)
  frzs : ∀ b o u, H b = some (.frz o u) → H' b = some (.frz o u)
  tbls : ∀ b ps, H b = some (.tbl ps) → ∃ more, H' b = some (.tbl (ps ++ more))
section
variable {fs fs' ex ex' : List Addr} {H H1 H2 : Hp} {h h1 h2 h' : Heap} {a x e : Addr} {o : HO}
theorem Un.any (u : Un fs ex H H1 h h1) {b : Addr} {ob : Obj} (q : h.get? b = some ob) (n : H b = none) (hx : b ∉ ex) : ∃ sl, h1.get? b = some { ob with slots := sl } := by
  by_cases hb : b ∈ fs
  · exact u.slot b ob q n hb hx
  · exact ⟨ob.slots, u.keep b ob q n hb hx⟩
theorem Un.kept (k : ∀ b u, h.get? b = some u → h'.get? b = some u) : Un fs ex H H h h' :=
  ⟨fun b ob q _ _ _ => k b ob q, fun b ob q _ _ _ => ⟨ob.slots, k b ob q⟩, fun _ _ _ n _ => n, fun b ob q _ => ⟨ob, k b ob q⟩, fun _ _ q => q, fun _ _ _ q => q, fun _ ps q => ⟨#[], by rw [q]; simp⟩⟩
theorem Un.refl : Un fs ex H H h h := Un.kept fun _ _ q => q
theorem Un.laid (k : ∀ b u, h.get? b = some u → h'.get? b = some u) (hp : h.objs.size ≤ a) (hn : H a = none) : Un fs ex H (upd H a o) h h' where
  keep := fun b u q _ _ _ => k b u q
  slot := fun b u q _ _ _ => ⟨u.slots, k b u q⟩
  free := fun b u q n _ => by rw [upd_ne (Nat.ne_of_lt (Nat.lt_of_lt_of_le (Heap.lt_size q) hp))]; exact n
  there := fun b u q _ => ⟨u, k b u q⟩
  tups := fun b xs q => by rw [upd_ne (ne_of_none q hn)]; exact q
  frzs := fun b u xs q => by rw [upd_ne (ne_of_none q hn)]; exact q
  tbls := fun b ps q => ⟨#[], by rw [upd_ne (ne_of_none q hn), q]; simp⟩
theorem Un.write (mu : Mut (H x)) (he : e = x ∨ H e = some (.own x)) (k : ∀ b u, b ≠ e → h.get? b = some u → h'.get? b = some u) (heo : ∃ u, h'.get? e = some u) : Un fs ex H (upd H x o) h h' := by
  have hx : ∀ b, H b = none → b ≠ x := fun b n z => by subst z; rw [n] at mu; exact mu
  have hb : ∀ b, H b = none → b ≠ e := fun b n z => by
    subst z
    rcases he with r | r
    · exact hx b n r
    · rw [n] at r; cases r
  have hm : ∀ b u, H b = some u → ¬ Mut (some u) → b ≠ x := fun b u q nm z => by subst z; rw [q] at mu; exact nm mu
  refine ⟨fun b u q n _ _ => k b u (hb b n) q, fun b u q n _ _ => ⟨u.slots, k b u (hb b n) q⟩, fun b u q n _ => by rw [upd_ne (hx b n)]; exact n, fun b u q _ => ?_,
    fun b xs q => by rw [upd_ne (hm b _ q fun z => z)]; exact q, fun b u xs q => by rw [upd_ne (hm b _ q fun z => z)]; exact q, fun b ps q => ⟨#[], by rw [upd_ne (hm b _ q fun z => z), q]; simp⟩⟩
  by_cases hbe : b = e
  · subst hbe; exact heo
  · exact ⟨u, k b u hbe q⟩
end

/-! ### the heap without what is tracked -/
noncomputable def trk (h : Heap) (H : Hp) : List Addr := (List.range h.objs.size).filter fun a => (H a).isSome
noncomputable def hidT (h : Heap) (H : Hp) : Heap := PySem.W.hideAll h (trk h H)
theorem hidT_size (h : Heap) (H : Hp) : (hidT h H).objs.size = h.objs.size := PySem.W.hideAll_size _ _
theorem hidT_get {h : Heap} {H : Hp} {b : Addr} {o : Obj} (e : h.get? b = some o) (n : H b = none) : (hidT h H).get? b = some o :=
  PySem.W.hideAll_get _ e fun hm => by
    have q : (H b).isSome = true := (List.mem_filter.mp hm).2
    rw [n] at q; simp at q
theorem of_hidT {h : Heap} {H : Hp} {b : Addr} {o : Obj} (e : (hidT h H).get? b = some o) : h.get? b = some o ∧ H b = none := by
  have e' : h.get? b = some o := PySem.W.of_hideAll (trk h H) e
  refine ⟨e', ?_⟩
  cases q : H b with
  | none => rfl
  | some x =>
    have hm : b ∈ trk h H := List.mem_filter.mpr ⟨List.mem_range.mpr (Heap.lt_size e'), by simp [q]⟩
    have z : (hidT h H).get? b = none := PySem.W.hideAll_none (trk h H) hm
    rw [z] at e; cases e

/-! ### OpenK's ledger, filled with every new object but one -/
end L2

namespace L2
open PySem PySem.Spec PyProof.Rows

/-- the module's facts, over the base: the heap at the law's entry without what is tracked there -/
structure Mod (K : PySem.W.Frag) (mg : Str → Option Value) (base : Heap) : Prop where
  kin : K.In base
  glob : base.Ns mainGlobals mg
  blt : ∃ mb, base.Ns builtinsNs mb ∧ ∀ x : Str, x ≠ "__name__" → mb x = bootBuiltins x
  nolimit : base.NoLimit

/-- the context: a def's body (or a comprehension's block) running. base: fixed through the whole law; s₀, H₀: the entry; outer: the frames whose slots others may change (a def's callers); stack: all frames that run;
   ex: iterators that were made ahead of the entry and are walked here (a comprehension's); fn: the names whose cells were made at the entry (a def: all; a comprehension's block: its own); calm: not within an except suite; pn: pins that every state bears; xe: what is wanted of an exception that leaves the code -/
structure Cx where
  prog : Program
  w : World
  K : PySem.W.Frag
  mg : Str → Option Value
  base : Heap
  A : Around
  N : List Str
  s₀ : Shared
  H₀ : Hp
  env : Env
  outer : List Env
  stack : List Env
  ex : List Addr
  fn : Str → Bool
  calm : Bool
  pn : List (Addr × Obj)
  xe : Value → Shared → Prop
/-- the callers' frames -/
noncomputable def frs (l : List Env) : List Addr := l.filterMap (·.frame)
noncomputable abbrev Cx.fs (X : Cx) : List Addr := frs X.outer

noncomputable def Vis (sc : Scope) (x : Str) : Prop := sc.names.lookup x = some .local ∨ sc.names.lookup x = some .cell ∨ sc.names.lookup x = some .free
noncomputable def Loc (sc : Scope) (x : Str) : Prop := sc.names.lookup x = some .local ∨ sc.names.lookup x = some .cell
noncomputable def Look (env : Env) (h : Heap) (m : Str → Option Value) (x : Str) (u : Value) : Prop :=
  (env.kindOf x = some .local ∧ m x = some u) ∨ ((env.kindOf x = some .cell ∨ env.kindOf x = some .free) ∧ ∃ c, env.cells.lookup x = some c ∧ h.IsCell c (some u))

structure Cx.Ok (X : Cx) : Prop where
  mod : Mod X.K X.mg X.base
  kind : X.env.scope.kind = .function
  glob : X.env.globals = mainGlobals
  blt : X.env.builtins = builtinsNs
  above : X.s₀.heap.objs.size ≤ X.env.locals
  inj : ∀ x y c, X.env.cells.lookup x = some c → X.env.cells.lookup y = some c → x = y
  has : ∀ x, (X.env.kindOf x = some .cell ∨ X.env.kindOf x = some .free) → ∃ c, X.env.cells.lookup x = some c
  cab : ∀ x c, X.fn x = true → X.env.cells.lookup x = some c → X.s₀.heap.objs.size ≤ c
  hd : X.calm = true → X.A.handled = none
  frames : X.A.frames = some X.stack
  stk : X.stack = X.outer ∨ (X.stack = X.env :: X.outer ∧ X.env.frame = some X.env.locals)
  exf : ∀ b ∈ X.ex, b ≠ X.env.locals ∧ ∀ x c, X.env.cells.lookup x = some c → c ≠ b
  bs : ∀ b o, X.base.get? b = some o → X.s₀.heap.get? b = some o ∧ X.H₀ b = none
  bsz : X.base.objs.size ≤ X.s₀.heap.objs.size
  noex : ∀ b o, X.base.get? b = some o → b ∉ X.ex
  exfs : ∀ b ∈ X.ex, b ∉ X.fs
  funs : X.s₀.heap.FunFrames X.base X.outer
  frf : ∀ b ∈ X.fs, X.H₀ b = none

structure Inv (X : Cx) (pins : List (Addr × Obj)) (σ : List (Option V)) (H : Hp) (s : Shared) : Prop where
  ok : X.Ok
  os : s.os = X.s₀.os
  bare : AllBare s.gens
  base : Un X.fs X.ex X.H₀ H X.s₀.heap s.heap
  loc : ∃ m, s.heap.Ns X.env.locals m ∧ ∀ (i : Nat) (x : Str) (v : V), X.N[i]? = some x → σ[i]? = some (some v) → Vis X.env.scope x → ∃ u, RelV v u ∧ Look X.env s.heap m x u
  cell : ∀ x c, X.env.cells.lookup x = some c → ∃ v, s.heap.IsCell c v
  free : H X.env.locals = none
  freeC : ∀ x c, X.env.cells.lookup x = some c → H c = none
  pin : ∀ p ∈ X.pn ++ pins, s.heap.get? p.1 = some p.2 ∧ H p.1 = none ∧ p.1 ≠ X.env.locals ∧ p.1 ∉ X.fs ∧ ∀ v, p.2.data ≠ .cell v
  hok : HOk X.prog X.w H s.heap
  len : σ.length = X.N.length

section
variable {X : Cx} {pins : List (Addr × Obj)} {σ : List (Option V)} {H H' : Hp} {s : Shared} {h' : Heap}

theorem Cx.Ok.nofr (ok : X.Ok) {b : Addr} {o : Obj} (e : X.base.get? b = some o) : b ∉ X.fs := fun hb => by
  have := (ok.funs.mem hb).1
  rw [e] at this; cases this
theorem Inv.bs (I : Inv X pins σ H s) : ∀ b o, X.base.get? b = some o → s.heap.get? b = some o ∧ H b = none := fun b o e =>
  ⟨I.base.keep b o (I.ok.bs b o e).1 (I.ok.bs b o e).2 (I.ok.nofr e) (I.ok.noex b o e), I.base.free b o (I.ok.bs b o e).1 (I.ok.bs b o e).2 (I.ok.noex b o e)⟩
theorem Inv.bk (I : Inv X pins σ H s) : ∀ b o, X.base.get? b = some o → s.heap.get? b = some o := fun b o e => (I.bs b o e).1
theorem Inv.mod (I : Inv X pins σ H s) : Mod X.K X.mg X.base := I.ok.mod
theorem Inv.kIn (I : Inv X pins σ H s) : X.K.In s.heap := I.ok.mod.kin.keeps I.bk
theorem Inv.nolimit (I : Inv X pins σ H s) : s.heap.NoLimit := I.ok.mod.nolimit.keeps I.bk
theorem Inv.lt (I : Inv X pins σ H s) : X.env.locals < s.heap.objs.size := let ⟨_, hn, _⟩ := I.loc; hn.lt
theorem Inv.sz (I : Inv X pins σ H s) : X.s₀.heap.objs.size ≤ s.heap.objs.size := Nat.le_trans I.ok.above (Nat.le_of_lt I.lt)
theorem Inv.nofs (I : Inv X pins σ H s) {a : Addr} (h : s.heap.objs.size ≤ a) : a ∉ X.fs := fun hb => by
  obtain ⟨_, o, ho, _⟩ := I.ok.funs.mem hb
  exact absurd (Nat.lt_of_lt_of_le (Heap.lt_size ho) (Nat.le_trans I.sz h)) (Nat.lt_irrefl _)
theorem Inv.cne (I : Inv X pins σ H s) : ∀ x c, X.env.cells.lookup x = some c → c ≠ X.env.locals := fun x c e z => by
  obtain ⟨v, o, ho, hd⟩ := I.cell x c e
  obtain ⟨m, ⟨o', es, ep, ho', hd', _⟩, _⟩ := I.loc
  rw [z, ho'] at ho; cases ho; rw [hd'] at hd; cases hd
theorem Inv.funs (I : Inv X pins σ H s) : s.heap.FunFrames X.base X.outer := by
  have all : ∀ (l : List Env), (∀ b ∈ frs l, b ∈ X.fs) → X.s₀.heap.FunFrames X.base l → s.heap.FunFrames X.base l := by
    intro l
    induction l with
    | nil => intro _ _; trivial
    | cons env r ih =>
      intro hs hl
      obtain ⟨hk, ⟨L, o, hf, hn, ho, hd⟩, hr⟩ := hl
      have hL : L ∈ X.fs := hs L (by unfold frs; rw [List.filterMap_cons, hf]; exact List.mem_cons_self)
      obtain ⟨sl, e⟩ := I.base.slot L o ho (I.ok.frf L hL) hL fun z => I.ok.exfs L z hL
      exact ⟨hk, ⟨L, _, hf, hn, e, hd⟩, ih (fun b hb => hs b (by unfold frs; rw [List.filterMap_cons, hf]; exact List.mem_cons_of_mem _ hb)) hr⟩
  exact all X.outer (fun _ hb => hb) I.ok.funs

/-- the frames that run, for a call -/
theorem Inv.stack (I : Inv X pins σ H s) : s.heap.FunFrames X.base X.stack := by
  rcases I.ok.stk with e | ⟨e, hf⟩
  · rw [e]; exact I.funs
  · rw [e]
    obtain ⟨m, hn, _⟩ := I.loc
    refine .cons (by rw [I.ok.kind]; decide) hf hn ?_ I.funs
    exact Heap.get?_none_of_le (Nat.le_trans I.ok.bsz I.ok.above)
theorem Inv.stkSub (I : Inv X pins σ H s) : ∀ b ∈ frs X.stack, b ∈ X.env.locals :: X.fs := fun b hb => by
  rcases I.ok.stk with e | ⟨e, hf⟩
  · rw [e] at hb; exact List.mem_cons_of_mem _ hb
  · rw [e] at hb
    unfold frs at hb
    rw [List.filterMap_cons, hf] at hb
    exact hb
theorem Inv.stkFree (I : Inv X pins σ H s) : ∀ b ∈ frs X.stack, H b = none := fun b hb => by
  rcases List.mem_cons.mp (I.stkSub b hb) with e | hb
  · rw [e]; exact I.free
  · obtain ⟨_, o, ho, _⟩ := I.ok.funs.mem hb
    exact I.base.free b o ho (I.ok.frf b hb) fun z => I.ok.exfs b z hb

/-- THE STEP: the untracked objects but the frame and the records at ch are kept (the callers' frames up to slots), the frame's map is kept, the new abstract heap is held -/
theorem Inv.step {g' : Array GenState} {t' : Nat} {d' : Drawn} {ch : List Addr} (I : Inv X pins σ H s)
    (hch : ∀ b ∈ ch, (b ∈ X.ex ∨ X.s₀.heap.objs.size ≤ b) ∧ b ≠ X.env.locals ∧ (∀ x c, X.env.cells.lookup x = some c → c ≠ b) ∧ ∀ p ∈ X.pn ++ pins, p.1 ≠ b)
    (keep : ∀ b o, b ≠ X.env.locals → b ∉ X.fs → b ∉ ch → s.heap.get? b = some o → H b = none → h'.get? b = some o)
    (slot : ∀ b o, b ≠ X.env.locals → b ∈ X.fs → b ∉ ch → s.heap.get? b = some o → H b = none → ∃ sl, h'.get? b = some { o with slots := sl }) (free : ∀ b o, b ∉ ch → s.heap.get? b = some o → H b = none → H' b = none)
    (there : ∀ b o, b ∉ ch → s.heap.get? b = some o → ∃ o', h'.get? b = some o')
    (tups : ∀ b xs, H b = some (.tup xs) → H' b = some (.tup xs)) (frzs : ∀ b o u, H b = some (.frz o u) → H' b = some (.frz o u)) (tbls : ∀ b ps, H b = some (.tbl ps) → ∃ more, H' b = some (.tbl (ps ++ more)))
    (ns : ∀ m, s.heap.Ns X.env.locals m → h'.Ns X.env.locals m) (hok : HOk X.prog X.w H' h') (hg : AllBare g') :
    Inv X pins σ H' { s with heap := h', gens := g', drawn := d', toks := t' } := by
  have neL : ∀ b o, X.s₀.heap.get? b = some o → b ≠ X.env.locals := fun b o e => Nat.ne_of_lt (Nat.lt_of_lt_of_le (Heap.lt_size e) I.ok.above)
  have neC : ∀ b o, X.s₀.heap.get? b = some o → b ∉ X.ex → b ∉ ch := fun b o e hx hb => by
    rcases (hch b hb).1 with z | z
    · exact hx z
    · exact absurd (Nat.lt_of_lt_of_le (Heap.lt_size e) z) (Nat.lt_irrefl _)
  have cellK : ∀ x c, X.env.cells.lookup x = some c → ∀ v, s.heap.IsCell c v → h'.IsCell c v := fun x c e v ⟨o, ho, hd⟩ => by
    have nch : c ∉ ch := fun z => (hch c z).2.2.1 x c e rfl
    by_cases hc : c ∈ X.fs
    · obtain ⟨sl, q⟩ := slot c o (I.cne x c e) hc nch ho (I.freeC x c e)
      exact ⟨_, q, hd⟩
    · exact ⟨o, keep c o (I.cne x c e) hc nch ho (I.freeC x c e), hd⟩
  refine ⟨I.ok, I.os, hg, ⟨fun b o e n hb hx => ?_, fun b o e n hb hx => ?_, fun b o e n hx => ?_, fun b o e hx => ?_, fun b xs e => tups b xs (I.base.tups b xs e), fun b o xs e => frzs b o xs (I.base.frzs b o xs e), fun b ps e => ?_⟩, ?_, fun x c e => ?_, ?_, fun x c e => ?_, fun p hp => ?_, hok, I.len⟩
  · exact keep b o (neL b o e) hb (neC b o e hx) (I.base.keep b o e n hb hx) (I.base.free b o e n hx)
  · obtain ⟨sl, e1⟩ := I.base.slot b o e n hb hx
    obtain ⟨sl', e2⟩ := slot b _ (neL b o e) hb (neC b o e hx) e1 (I.base.free b o e n hx)
    exact ⟨sl', e2⟩
  · obtain ⟨o', e1⟩ := I.base.there b o e hx
    exact free b o' (neC b o e hx) e1 (I.base.free b o e n hx)
  · obtain ⟨o', e1⟩ := I.base.there b o e hx
    exact there b o' (neC b o e hx) e1
  · obtain ⟨m1, e1⟩ := I.base.tbls b ps e
    obtain ⟨m2, e2⟩ := tbls b _ e1
    exact ⟨m1 ++ m2, by rw [e2, Array.append_assoc]⟩
  · obtain ⟨m, hn, hl⟩ := I.loc
    refine ⟨m, ns m hn, fun i x v e1 e2 e3 => ?_⟩
    obtain ⟨u, r, l⟩ := hl i x v e1 e2 e3
    refine ⟨u, r, ?_⟩
    rcases l with l | ⟨k, c, e, z⟩
    · exact .inl l
    · exact .inr ⟨k, c, e, cellK x c e _ z⟩
  · obtain ⟨v, z⟩ := I.cell x c e
    exact ⟨v, cellK x c e v z⟩
  · obtain ⟨m, ⟨o, _, _, ho, _⟩, _⟩ := I.loc
    exact free _ o (fun z => (hch _ z).2.1 rfl) ho I.free
  · obtain ⟨v, o, ho, hd⟩ := I.cell x c e
    exact free c o (fun z => (hch c z).2.2.1 x c e rfl) ho (I.freeC x c e)
  · obtain ⟨e, n, ne, nf, d⟩ := I.pin p hp
    have nch : p.1 ∉ ch := fun z => (hch p.1 z).2.2.2 p hp rfl
    exact ⟨keep p.1 p.2 ne nf nch e n, free p.1 p.2 nch e n, ne, nf, d⟩
/-- .. where the frame's own object is kept too -/
theorem Inv.un {t' : Nat} (I : Inv X pins σ H s) (u : Un X.fs [] H H' s.heap h') (hok : HOk X.prog X.w H' h') : Inv X pins σ H' { s with heap := h', toks := t' } := by
  obtain ⟨m, ⟨o, es, ep, ho, r⟩, _⟩ := id I.loc
  obtain ⟨sl, hL⟩ := u.any ho I.free (by simp)
  exact I.step (g' := s.gens) (d' := s.drawn) (ch := []) (fun _ z => nomatch z) (fun b o _ hb _ e n => u.keep b o e n hb (by simp)) (fun b o _ hb _ e n => u.slot b o e n hb (by simp)) (fun b o _ e n => u.free b o e n (by simp)) (fun b o _ e => u.there b o e (by simp)) u.tups u.frzs u.tbls (fun m' hm => by
    obtain ⟨o', es', ep', ho', r'⟩ := hm
    rw [ho] at ho'; cases ho'
    exact ⟨_, es', ep', hL, r'⟩) hok I.bare
/-- behind a call (or a comprehension's block): the slots of this frame may have changed too, the records at ch may have turned -/
theorem Inv.call {g' : Array GenState} {t' : Nat} {d' : Drawn} {ch : List Addr} (I : Inv X pins σ H s) (u : Un (frs X.stack) ch H H' s.heap h') (hok : HOk X.prog X.w H' h') (hg : AllBare g')
    (hch : ∀ b ∈ ch, (b ∈ X.ex ∨ X.s₀.heap.objs.size ≤ b) ∧ b ≠ X.env.locals ∧ (∀ x c, X.env.cells.lookup x = some c → c ≠ b) ∧ ∀ p ∈ X.pn ++ pins, p.1 ≠ b) :
    Inv X pins σ H' { s with heap := h', gens := g', drawn := d', toks := t' } := by
  obtain ⟨m, ⟨o, es, ep, ho, r⟩, _⟩ := id I.loc
  obtain ⟨sl, hL⟩ := u.any ho I.free fun z => (hch _ z).2.1 rfl
  exact I.step (ch := ch) hch (fun b o hL hb hc e n => u.keep b o e n (fun z => (List.mem_cons.mp (I.stkSub b z)).elim hL hb) hc) (fun b o _ _ hc e n => u.any e n hc) (fun b o hc e n => u.free b o e n hc) (fun b o hc e => u.there b o e hc) u.tups u.frzs u.tbls (fun m' hm => by
    obtain ⟨o', es', ep', ho', r'⟩ := hm
    rw [ho] at ho'; cases ho'
    exact ⟨_, es', ep', hL, r'⟩) hok hg
/-- an untracked record of ours (an iterator) has turned -/
theorem Inv.turned {t' : Nat} {it : Addr} (I : Inv X pins σ H s) (k : ∀ b o, b ≠ it → s.heap.get? b = some o → h'.get? b = some o) (hn : H it = none) (hL : it ≠ X.env.locals)
    (h1 : it ∈ X.ex ∨ X.s₀.heap.objs.size ≤ it) (h2 : ∀ x c, X.env.cells.lookup x = some c → c ≠ it) (h3 : ∀ p ∈ X.pn ++ pins, p.1 ≠ it) : Inv X pins σ H { s with heap := h', toks := t' } := by
  have nit : ∀ b u, H b = some u → b ≠ it := fun b u e z => by rw [z, hn] at e; cases e
  refine I.step (g' := s.gens) (d' := s.drawn) (ch := [it]) (fun b hb => ?_) (fun b o _ _ hc e _ => k b o (fun z => hc (by simp [z])) e) (fun b o _ _ hc e _ => ⟨o.slots, k b o (fun z => hc (by simp [z])) e⟩) (fun _ _ _ _ n => n)
    (fun b o hc e => ⟨o, k b o (fun z => hc (by simp [z])) e⟩) (fun _ _ e => e) (fun _ _ _ e => e) (fun b ps e => ⟨#[], by rw [e]; simp⟩) (fun m hm => ?_) (fun b u e => ?_) I.bare
  · have e : b = it := by simpa using hb
    subst e
    exact ⟨h1, hL, h2, h3⟩
  · obtain ⟨o, es, ep, ho, r⟩ := hm
    exact ⟨o, es, ep, k _ o (Ne.symm hL) ho, r⟩
  · refine (I.hok b u e).stay (fun c v hc q => k c v ?_ q) (fun _ q => q) fun _ _ q => q
    rcases hc with z | z
    · rw [z]; exact nit b u e
    · exact nit c _ z
theorem Inv.tok (I : Inv X pins σ H s) (t : Nat) : Inv X pins σ H { s with toks := t } := I.un (h' := s.heap) (t' := t) Un.refl I.hok
/-- all objects kept -/
theorem Inv.kept {t' : Nat} (I : Inv X pins σ H s) (k : ∀ b u, s.heap.get? b = some u → h'.get? b = some u) : Inv X pins σ H { s with heap := h', toks := t' } := I.un (Un.kept k) (I.hok.kept k)
/-- a new object laid and tracked -/
theorem Inv.laid {a : Addr} {o : HO} {t' : Nat} (I : Inv X pins σ H s) (k : ∀ b u, s.heap.get? b = some u → h'.get? b = some u) (hp : s.heap.objs.size ≤ a) (new : ObjOk X.prog X.w (upd H a o) h' a o) :
    Inv X pins σ (upd H a o) { s with heap := h', toks := t' } := I.un (Un.laid k hp (I.hok.fresh hp)) (I.hok.laid k hp new)
/-- an object written -/
theorem Inv.write {x e : Addr} {o : HO} {t' : Nat} (I : Inv X pins σ H s) (mu : Mut (H x)) (he : e = x ∨ H e = some (.own x)) (k : ∀ b u, b ≠ e → s.heap.get? b = some u → h'.get? b = some u) (heo : ∃ u, h'.get? e = some u)
    (new : ObjOk X.prog X.w (upd H x o) h' x o) : Inv X pins σ (upd H x o) { s with heap := h', toks := t' } := I.un (Un.write mu he k heo) (I.hok.write mu he k heo new)
/-- forgetting slots, pins -/
theorem Inv.weak {σ' : List (Option V)} (I : Inv X pins σ H s) (hl : σ'.length = σ.length) (w : ∀ (i : Nat) v, σ'[i]? = some (some v) → σ[i]? = some (some v)) : Inv X pins σ' H s :=
  ⟨I.ok, I.os, I.bare, I.base, let ⟨m, hn, hl'⟩ := I.loc; ⟨m, hn, fun i x v e1 e2 e3 => hl' i x v e1 (w i v e2) e3⟩, I.cell, I.free, I.freeC, I.pin, I.hok, hl.trans I.len⟩
theorem Inv.pins_of {pins' : List (Addr × Obj)} (I : Inv X pins σ H s) (h : ∀ p ∈ pins', s.heap.get? p.1 = some p.2 ∧ H p.1 = none ∧ p.1 ≠ X.env.locals ∧ p.1 ∉ X.fs ∧ ∀ v, p.2.data ≠ .cell v) : Inv X pins' σ H s :=
  ⟨I.ok, I.os, I.bare, I.base, I.loc, I.cell, I.free, I.freeC, fun p hp => (List.mem_append.mp hp).elim (fun z => I.pin p (List.mem_append_left _ z)) (h p), I.hok, I.len⟩

theorem nodup_ix {N : List Str} (hN : N.Nodup) {i j : Nat} {x : Str} (a : N[i]? = some x) (b : N[j]? = some x) : i = j := by
  obtain ⟨h1, e1⟩ := List.getElem?_eq_some_iff.mp a
  obtain ⟨h2, e2⟩ := List.getElem?_eq_some_iff.mp b
  exact (List.getElem_inj hN).mp (e1.trans e2.symm)

/-- a name is stored; what changed -/
theorem store_ok2 {M : Model} {A : Around} {E : Value → Shared → Prop} {i : Nat} {x : Str} {v : V} {u : Value} {Q : Unit → Shared → Prop} (I : Inv X pins σ H s) (hN : X.N.Nodup) (hi : X.N[i]? = some x) (hx : Loc X.env.scope x) (r : RelV v u)
    (h : ∀ s', Inv X pins (σ.set i (some v)) H s' → (∃ a, Heap.SameBut a s.heap s'.heap ∧ (a = X.env.locals ∨ X.env.cells.lookup x = some a)) → Q () s') (hf : X.fn x = true ∨ X.env.scope.names.lookup x = some .local := by first | exact .inl rfl | exact .inr rfl | assumption) : wpAny M A (storeName X.env x u) Q E s := by
  obtain ⟨m, hn, hl⟩ := id I.loc
  have hcls : (X.env.scope.kind == .class || (X.env.scope.kind == .module && X.env.locals != X.env.globals)) = false := by rw [I.ok.kind]; rfl
  have hiσ : i < σ.length := by rw [I.len]; exact (List.getElem?_eq_some_iff.mp hi).1
  have cne := I.cne
  have tracked : ∀ {a : Addr} {h' : Heap}, (∃ o, s.heap.get? a = some o ∧ H a = none) → Heap.SameBut a s.heap h' → HOk X.prog X.w H h' := fun {a h'} ha hs b ob e => by
    obtain ⟨_, _, hfree⟩ := ha
    refine (I.hok b ob e).stay (fun c w' hc q => (hs.2 c ?_).trans q) (fun _ q => q) fun _ _ q => q
    rintro rfl
    rcases hc with rfl | hc
    · rw [hfree] at e; cases e
    · rw [hfree] at hc; cases hc
  rcases hx with hk | hk
  · refine wpAny_storeName_local hk hn (fun h' hn' hs => ?_) hcls
    obtain ⟨oL, _, _, hoL, _⟩ := id hn
    refine h _ ⟨I.ok, I.os, I.bare, ⟨fun b o e n hb hx => ?_, fun b o e n hb hx => ?_, I.base.free, fun b o e hx => ?_, I.base.tups, I.base.frzs, I.base.tbls⟩, ⟨_, hn', fun j y v' e1 e2 e3 => ?_⟩, fun y c e => ?_, I.free, I.freeC, fun p hp => ?_, tracked ⟨oL, hoL, I.free⟩ hs, by simpa using I.len⟩ ⟨_, hs, .inl rfl⟩
    · exact (hs.2 b (Nat.ne_of_lt (Nat.lt_of_lt_of_le (Heap.lt_size e) I.ok.above))).trans (I.base.keep b o e n hb hx)
    · obtain ⟨sl, e1⟩ := I.base.slot b o e n hb hx
      exact ⟨sl, (hs.2 b (Nat.ne_of_lt (Nat.lt_of_lt_of_le (Heap.lt_size e) I.ok.above))).trans e1⟩
    · obtain ⟨o', e1⟩ := I.base.there b o e hx
      exact ⟨o', (hs.2 b (Nat.ne_of_lt (Nat.lt_of_lt_of_le (Heap.lt_size e) I.ok.above))).trans e1⟩
    · by_cases hj : j = i
      · subst hj
        rw [hi] at e1; cases e1
        rw [List.getElem?_set_self hiσ] at e2
        cases e2
        exact ⟨u, r, .inl ⟨hk, by simp⟩⟩
      · rw [List.getElem?_set_ne (Ne.symm hj)] at e2
        obtain ⟨u', r', q⟩ := hl j y v' e1 e2 e3
        refine ⟨u', r', ?_⟩
        rcases q with ⟨k, e⟩ | ⟨k, c, e, z⟩
        · refine .inl ⟨k, ?_⟩
          have : y ≠ x := fun e => hj (nodup_ix hN e1 (e ▸ hi))
          simp [this, e]
        · exact .inr ⟨k, c, e, z.sameBut hs (cne y c e)⟩
    · obtain ⟨w', z⟩ := I.cell y c e
      exact ⟨w', z.sameBut hs (cne y c e)⟩
    · obtain ⟨e, n, ne, nf, d⟩ := I.pin p hp
      exact ⟨(hs.2 p.1 ne).trans e, n, ne, nf, d⟩
  · have hfn : X.fn x = true := by
      rcases hf with z | z
      · exact z
      · rw [z] at hk; cases hk
    obtain ⟨c, hc⟩ := I.ok.has x (.inl hk)
    obtain ⟨w', z⟩ := I.cell x c hc
    refine wpAny_storeName_cell I.ok.kind hk hc z (fun h' hc' hs => ?_)
    obtain ⟨oc, hoc, hocd⟩ := id z
    refine h { s with heap := h' } ⟨I.ok, I.os, I.bare, ⟨fun b o e n hb hx => ?_, fun b o e n hb hx => ?_, I.base.free, fun b o e hx => ?_, I.base.tups, I.base.frzs, I.base.tbls⟩, ⟨m, hn.sameBut hs (Ne.symm (cne x c hc)), fun j y v' e1 e2 e3 => ?_⟩, fun y c' e => ?_, I.free, I.freeC, fun p hp => ?_, tracked ⟨oc, hoc, I.freeC x c hc⟩ hs, by simpa using I.len⟩ ⟨c, hs, .inr hc⟩
    · exact (hs.2 b (Nat.ne_of_lt (Nat.lt_of_lt_of_le (Heap.lt_size e) (I.ok.cab x c hfn hc)))).trans (I.base.keep b o e n hb hx)
    · obtain ⟨sl, e1⟩ := I.base.slot b o e n hb hx
      exact ⟨sl, (hs.2 b (Nat.ne_of_lt (Nat.lt_of_lt_of_le (Heap.lt_size e) (I.ok.cab x c hfn hc)))).trans e1⟩
    · obtain ⟨o', e1⟩ := I.base.there b o e hx
      exact ⟨o', (hs.2 b (Nat.ne_of_lt (Nat.lt_of_lt_of_le (Heap.lt_size e) (I.ok.cab x c hfn hc)))).trans e1⟩
    · by_cases hj : j = i
      · subst hj
        rw [hi] at e1; cases e1
        rw [List.getElem?_set_self hiσ] at e2
        cases e2
        exact ⟨u, r, .inr ⟨.inl hk, c, hc, hc'⟩⟩
      · rw [List.getElem?_set_ne (Ne.symm hj)] at e2
        obtain ⟨u', r', q⟩ := hl j y v' e1 e2 e3
        refine ⟨u', r', ?_⟩
        rcases q with q | ⟨k, c', e, z'⟩
        · exact .inl q
        · refine .inr ⟨k, c', e, z'.sameBut hs ?_⟩
          rintro rfl
          exact hj (nodup_ix hN e1 (I.ok.inj _ _ _ e hc ▸ hi))
    · by_cases hcc : c' = c
      · subst hcc; exact ⟨_, hc'⟩
      · obtain ⟨w2, z2⟩ := I.cell y c' e
        exact ⟨w2, z2.sameBut hs hcc⟩
    · obtain ⟨e, n, ne, nf, d⟩ := I.pin p hp
      refine ⟨(hs.2 p.1 ?_).trans e, n, ne, nf, d⟩
      intro q
      rw [q, hoc] at e
      have q' : oc = p.2 := Option.some.inj e
      exact d w' (by rw [← q']; exact hocd)
theorem store_ok {M : Model} {A : Around} {E : Value → Shared → Prop} {i : Nat} {x : Str} {v : V} {u : Value} {Q : Unit → Shared → Prop} (I : Inv X pins σ H s) (hN : X.N.Nodup) (hi : X.N[i]? = some x) (hx : Loc X.env.scope x) (r : RelV v u)
    (h : ∀ s', Inv X pins (σ.set i (some v)) H s' → Q () s') (hf : X.fn x = true ∨ X.env.scope.names.lookup x = some .local := by first | exact .inl rfl | exact .inr rfl | assumption) : wpAny M A (storeName X.env x u) Q E s :=
  store_ok2 I hN hi hx r (fun s' I' _ => h s' I') hf
/-- behind a call or a block, the state as it is -/
theorem Inv.call' {s' : Shared} {ch : List Addr} (I : Inv X pins σ H s) (ho : s'.os = s.os) (u : Un (frs X.stack) ch H H' s.heap s'.heap) (hok : HOk X.prog X.w H' s'.heap) (hg : AllBare s'.gens)
    (hch : ∀ b ∈ ch, (b ∈ X.ex ∨ X.s₀.heap.objs.size ≤ b) ∧ b ≠ X.env.locals ∧ (∀ x c, X.env.cells.lookup x = some c → c ≠ b) ∧ ∀ p ∈ X.pn ++ pins, p.1 ≠ b) : Inv X pins σ H' s' := by
  obtain ⟨h', g', d', t', o'⟩ := s'
  have e : o' = s.os := ho
  subst e
  exact I.call (g' := g') (t' := t') (d' := d') u hok hg hch
end

/-! ### the judgements -/
/-- an exception: its class, its own dict's address (where it has one), the abstract heap behind it -/
noncomputable abbrev XK := Value → Option Addr → Hp → Prop
noncomputable abbrev St := List (Option V)
noncomputable abbrev VK := V → Hp → Prop
/-- an expression's reading; a test's; an argument list's -/
noncomputable abbrev TE := St → Hp → VK → Prop
noncomputable abbrev TT := St → Hp → (Bool → Hp → Prop) → Prop
noncomputable abbrev TA := St → Hp → (List V → Hp → Prop) → Prop
/-- what is wanted behind a statement -/
structure Ends where
  nx : St → Hp → Prop
  rt : VK
  bk : St → Hp → Prop := fun _ _ => False
  ct : St → Hp → Prop := fun _ _ => False
noncomputable abbrev TS := Ends → St → Hp → Prop

noncomputable def EP (X : Cx) (pins : List (Addr × Obj)) (σ : St) (Q : VK) (u : Value) (s' : Shared) : Prop := ∃ v H', Inv X pins σ H' s' ∧ RelV v u ∧ Q v H'
noncomputable def TP (X : Cx) (pins : List (Addr × Obj)) (σ : St) (Q : Bool → Hp → Prop) (b : Bool) (s' : Shared) : Prop := ∃ H', Inv X pins σ H' s' ∧ Q b H'
noncomputable def AP (X : Cx) (pins : List (Addr × Obj)) (σ : St) (Q : List V → Hp → Prop) (us : List Value) (s' : Shared) : Prop := ∃ vs H', Inv X pins σ H' s' ∧ Vals vs us ∧ Q vs H'
noncomputable def SP (X : Cx) (pins : List (Addr × Obj)) (D : Ends) (f : Flow) (s' : Shared) : Prop :=
  match f with
  | .next => ∃ σ' H', Inv X pins σ' H' s' ∧ D.nx σ' H'
  | .brk => ∃ σ' H', Inv X pins σ' H' s' ∧ D.bk σ' H'
  | .cont => ∃ σ' H', Inv X pins σ' H' s' ∧ D.ct σ' H'
  | .ret u => ∃ v σ' H', Inv X pins σ' H' s' ∧ RelV v u ∧ D.rt v H'

noncomputable def PE (X : Cx) (e : Expr) (t : TE) : Prop :=
  ∀ (pins : List (Addr × Obj)) (s : Shared) (σ : St) (H : Hp) (Q : VK), Inv X pins σ H s → t σ H Q → wpAny (model X.prog X.w) X.A (eval e X.env) (EP X pins σ Q) X.xe s
noncomputable def PT (X : Cx) (e : Expr) (t : TT) : Prop :=
  ∀ (pins : List (Addr × Obj)) (s : Shared) (σ : St) (H : Hp) (Q : Bool → Hp → Prop), Inv X pins σ H s → t σ H Q → wpAny (model X.prog X.w) X.A (isTrue e X.env (eval e X.env)) (TP X pins σ Q) X.xe s
/-- a test whatever its 'whole' is (and, or) -/
noncomputable def PW (X : Cx) (e : Expr) (t : TT) : Prop :=
  ∀ (whole : Sem Value) (pins : List (Addr × Obj)) (s : Shared) (σ : St) (H : Hp) (Q : Bool → Hp → Prop), Inv X pins σ H s → t σ H Q → wpAny (model X.prog X.w) X.A (isTrue e X.env whole) (TP X pins σ Q) X.xe s
theorem PW.pt {X : Cx} {e : Expr} {t : TT} (h : PW X e t) : PT X e t := h _
/-- an argument list (no star), from the left -/
noncomputable def PA (X : Cx) (es : List Expr) (t : TA) : Prop :=
  ∀ (pos : Pos) (pins : List (Addr × Obj)) (s : Shared) (σ : St) (H : Hp) (Q : List V → Hp → Prop), Inv X pins σ H s → t σ H Q → wpAny (model X.prog X.w) X.A (spliced (backTo pos (starEach es X.env))) (AP X pins σ Q) X.xe s
noncomputable def PS (X : Cx) (st : Stmt) (t : TS) : Prop :=
  ∀ (pins : List (Addr × Obj)) (s : Shared) (σ : St) (H : Hp) (D : Ends), Inv X pins σ H s → t D σ H → wpAny (model X.prog X.w) X.A (exec st X.env) (SP X pins D) X.xe s
noncomputable def PSs (X : Cx) (st : List Stmt) (t : TS) : Prop :=
  ∀ (pins : List (Addr × Obj)) (s : Shared) (σ : St) (H : Hp) (D : Ends), Inv X pins σ H s → t D σ H → wpAny (model X.prog X.w) X.A (execs st X.env) (SP X pins D) X.xe s
/-- weaken the end -/
theorem thn {α : Type} {t : Sem α} {Q Q' : α → Shared → Prop} {M : Model} {A : Around} {E : Value → Shared → Prop} {s : Shared} (h : wpAny M A t Q E s) (hQ : ∀ a s, Q a s → Q' a s) : wpAny M A t Q' E s := wpAny_mono h hQ fun _ _ x => x
end L2

namespace L2
open PySem PySem.Spec PyProof.Rows
section
variable {X : Cx}

/-! ### names and constants -/
noncomputable def tVar (i : Nat) : TE := fun σ H Q => ∃ v, σ[i]? = some (some v) ∧ Q v H
noncomputable def tC (v : V) : TE := fun _ H Q => Q v H
theorem pe_var {i : Nat} {x : Str} {pos : Pos} (hN : X.N[i]? = some x) (hv : Vis X.env.scope x) (hd : (x == ("__debug__" : Str)) = false := by decide) (hcd : (x == ("__classdict__" : Str)) = false := by decide) : PE X (.Name x pos) (tVar i) := by
  intro pins s σ H Q I h
  obtain ⟨v, e, h⟩ := h
  obtain ⟨m, hn, hl⟩ := I.loc
  obtain ⟨u, r, l⟩ := hl i x v hN e hv
  have fin : EP X pins σ Q u s := ⟨v, H, I, r, h⟩
  rcases l with ⟨hk, hm⟩ | ⟨hk, c, hc, hcell⟩
  · exact wpAny_Name (wpAny_loadName_local I.ok.kind hk hn hm fin) hd
  · rcases hk with hk | hk
    · exact wpAny_Name (wpAny_loadName_cell I.ok.kind hk hc hcell fin) hd
    · exact wpAny_Name (wpAny_loadName_free I.ok.kind hk hc hcell fin hcd) hd
theorem pe_int {i j pos} : PE X (.Constant (.int i) j pos) (tC (.int i)) := fun _ _ _ H _ I h => wpAny_Constant_int ⟨.int i, H, I.tok _, ⟨_, rfl⟩, h⟩
theorem pe_bl {b j pos} : PE X (.Constant (.bool b) j pos) (tC (.bl b)) := fun _ _ _ H _ I h => Constant_bool ⟨.bl b, H, I, rfl, h⟩
theorem pe_non {j pos} : PE X (.Constant .none j pos) (tC .non) := fun _ _ _ H _ I h => Constant_none ⟨.non, H, I, rfl, h⟩
theorem pe_str {x j pos} : PE X (.Constant (.str x) j pos) (tC (.str x)) := fun _ _ _ H _ I h => Calls.Constant_str ⟨.str x, H, I.tok _, ⟨_, rfl⟩, h⟩

/-- a global name of the def -/
noncomputable def Gl (X : Cx) (x : Str) : Prop := X.env.kindOf x = some .globalImplicit
theorem ld_glob {E : Value → Shared → Prop} {pins : List (Addr × Obj)} {s : Shared} {σ : St} {H : Hp} {x : Str} {u : Value} {pos : Pos} {Q : Value → Shared → Prop} (I : Inv X pins σ H s) (hg : Gl X x) (hm : X.mg x = some u) (h : Q u s)
    (hd : (x == ("__debug__" : Str)) = false := by decide) : wpAny (model X.prog X.w) X.A (eval (.Name x pos) X.env) Q E s :=
  Calls.Name_function_global I.ok.kind hg (Calls.loadGlobal_global (by rw [I.ok.glob]; exact I.mod.glob.keeps I.bk) hm h) hd
theorem ld_blt {E : Value → Shared → Prop} {pins : List (Addr × Obj)} {s : Shared} {σ : St} {H : Hp} {x : Str} {u : Value} {pos : Pos} {Q : Value → Shared → Prop} (I : Inv X pins σ H s) (hg : Gl X x) (hm : X.mg x = none) (hv : bootBuiltins x = some u) (h : Q u s)
    (hn : x ≠ "__name__" := by decide) (hd : (x == ("__debug__" : Str)) = false := by decide) : wpAny (model X.prog X.w) X.A (eval (.Name x pos) X.env) Q E s := by
  obtain ⟨mb, h1, h2⟩ := I.mod.blt
  exact Calls.Name_function_global I.ok.kind hg (Calls.loadGlobal_builtin (by rw [I.ok.glob]; exact I.mod.glob.keeps I.bk) hm (by rw [I.ok.blt]; exact h1.keeps I.bk) ((h2 x hn).trans hv) h) hd
theorem pe_bltn {x : Str} {v : V} {u : Value} {pos : Pos} (hg : Gl X x) (hm : X.mg x = none) (hv : bootBuiltins x = some u) (r : RelV v u) (hn : x ≠ "__name__" := by decide) (hd : (x == ("__debug__" : Str)) = false := by decide) : PE X (.Name x pos) (tC v) :=
  fun _ _ _ H _ I h => ld_blt I hg hm hv ⟨v, H, I, r, h⟩ hn hd

/-! ### arithmetic -/
variable {a b : Expr} {ta tb : TE} {pos : Pos}
/-! ### comparisons -/
/-- a comparison as a value, as a test -/
noncomputable def tB (t : TE) : TT := fun σ H Q => t σ H fun x H1 => ∃ c, x = .bl c ∧ Q c H1
/-- an expression whose value is a bool, as a test -/
theorem pt_val {e : Expr} {t : TE} (h : PE X e t) (he : ∀ whole, isTrue e X.env whole = (do let v ← whole; standAt e.pos; holding [v] (truthy v)) := by intro _; rfl) : PT X e (tB t) := by
  intro pins s σ H Q I hw
  refine isTrue_plain (thn (h pins s σ H _ I hw) fun v s1 ⟨x, H1, I1, r1, q1⟩ => ?_) (he _)
  obtain ⟨d, rfl, q⟩ := q1
  cases r1
  exact wpAny_truthy_bool ⟨H1, I1, q⟩

/-! ### and, or, not -/
variable {tA tB' : TT} {rest : List Expr}
noncomputable def tAnd (t u : TT) : TT := fun σ H Q => t σ H fun c H1 => if c = true then u σ H1 Q else Q false H1
noncomputable def tOr (t u : TT) : TT := fun σ H Q => t σ H fun c H1 => if c = true then Q true H1 else u σ H1 Q
noncomputable def tNot (t : TT) : TT := fun σ H Q => t σ H fun c H1 => Q (!c) H1
theorem pw_and1 (ha : PT X a tA) : PW X (.BoolOp .And [a] pos) tA := by
  intro wh pins s σ H Q I h
  refine isTrue_and (thn (ha pins s σ H Q I h) fun c s1 e => ?_)
  cases c with
  | true => exact isTrue_and_nil e
  | false => exact e
theorem pw_or1 (ha : PT X a tA) : PW X (.BoolOp .Or [a] pos) tA := by
  intro wh pins s σ H Q I h
  refine isTrue_or (thn (ha pins s σ H Q I h) fun c s1 e => ?_)
  cases c with
  | false => exact isTrue_or_nil e
  | true => exact e
theorem pw_and (ha : PT X a tA) (hb : PW X (.BoolOp .And (b :: rest) pos) tB') : PW X (.BoolOp .And (a :: b :: rest) pos) (tAnd tA tB') := by
  intro wh pins s σ H Q I h
  refine isTrue_and (thn (ha pins s σ H _ I h) fun c s1 ⟨H1, I1, q1⟩ => ?_)
  cases c with
  | true => exact hb wh pins s1 σ H1 Q I1 q1
  | false => exact ⟨H1, I1, q1⟩
theorem pw_or (ha : PT X a tA) (hb : PW X (.BoolOp .Or (b :: rest) pos) tB') : PW X (.BoolOp .Or (a :: b :: rest) pos) (tOr tA tB') := by
  intro wh pins s σ H Q I h
  refine isTrue_or (thn (ha pins s σ H _ I h) fun c s1 ⟨H1, I1, q1⟩ => ?_)
  cases c with
  | true => exact ⟨H1, I1, q1⟩
  | false => exact hb wh pins s1 σ H1 Q I1 q1
theorem pt_not (ha : PT X a tA) : PT X (.UnaryOp .Not a pos) (tNot tA) := by
  intro pins s σ H Q I h
  exact isTrue_not (ha pins s σ H (fun c H1 => Q (!c) H1) I h)
/-- .. as values (bools) -/
noncomputable def tAndV (ta tb : TE) : TE := fun σ H Q => ta σ H fun x H1 => ∃ c, x = .bl c ∧ if c = true then tb σ H1 Q else Q (.bl false) H1
noncomputable def tNotV (ta : TE) : TE := fun σ H Q => ta σ H fun x H1 => ∃ c, x = .bl c ∧ Q (.bl (!c)) H1
theorem pe_one {op} {t : TE} (h : PE X a t) : PE X (.BoolOp op [a] pos) t := fun pins s σ H Q I hw => BoolOp_one (h pins s σ H Q I hw)
theorem pe_and (ha : PE X a ta) (hb : PE X (.BoolOp .And (b :: rest) pos) tb) : PE X (.BoolOp .And (a :: b :: rest) pos) (tAndV ta tb) := by
  intro pins s σ H Q I h
  refine BoolOp_and (thn (ha pins s σ H _ I h) fun v s1 ⟨x, H1, I1, r1, q1⟩ => ?_)
  obtain ⟨c, rfl, q1⟩ := q1
  cases r1
  refine wpAny_truthy_bool ?_
  cases c with
  | true => exact hb pins s1 σ H1 Q I1 q1
  | false => exact ⟨.bl false, H1, I1, rfl, q1⟩
theorem pe_not (ha : PE X a ta) : PE X (.UnaryOp .Not a pos) (tNotV ta) := by
  intro pins s σ H Q I h
  refine UnaryOp_ (thn (ha pins s σ H _ I h) fun v s1 ⟨x, H1, I1, r1, q1⟩ => ?_)
  obtain ⟨c, rfl, q1⟩ := q1
  cases r1
  exact not_of (wpAny_truthy_bool ⟨.bl (!c), H1, I1, rfl, q1⟩)
end
end L2

namespace L2
open PySem PySem.Spec PyProof.Rows

/-! ### a list, a tuple that is read: tracked, frozen, or an object of the module -/
noncomputable def SqL (K : PySem.W.Frag) (H : Hp) (a : Addr) (xs : List V) : Prop :=
  Rd H a (.lst xs) ∨
    ∃ (o : Obj) (its : Array Value) (n : Nat), K.lookup a = some o ∧ o.cls = .type "list" ∧ o.dict = none ∧ o.data = .seq its n ∧ its.size ≤ sizeLine ∧ Vals xs its.toList
noncomputable def SqT (K : PySem.W.Frag) (H : Hp) (a : Addr) (xs : List V) : Prop :=
  Rd H a (.tup xs) ∨
    ∃ (o : Obj) (its : Array Value) (n : Nat), K.lookup a = some o ∧ o.cls = .type "tuple" ∧ o.data = .seq its n ∧ its.size ≤ sizeLine ∧ Vals xs its.toList
noncomputable def absV : Value → Option V
  | .none => some .non
  | .bool b => some (.bl b)
  | .int i _ => some (.int i)
  | .str x _ => some (.str x)
  | .bytes b _ => some (.byt b)
  | .float b _ => some (.flt b)
  | .ref a => some (.ref a)
  | .type n => some (.ty n)
  | _ => none
theorem RelV.abs {x : V} {u : Value} (r : RelV x u) : absV u = some x := by
  cases x with
  | non => cases r; rfl
  | bl _ => cases r; rfl
  | int _ => obtain ⟨t, rfl⟩ := r; rfl
  | str _ => obtain ⟨t, rfl⟩ := r; rfl
  | byt _ => obtain ⟨t, rfl⟩ := r; rfl
  | flt _ => obtain ⟨t, rfl⟩ := r; rfl
  | ref _ => cases r; rfl
  | ty _ => cases r; rfl
theorem RelV.inj {x y : V} {u : Value} (r : RelV x u) (q : RelV y u) : x = y := Option.some.inj (r.abs.symm.trans q.abs)
theorem Vals.inj : ∀ {xs ys : List V} {us : List Value}, Vals xs us → Vals ys us → xs = ys
  | _, _, _, .nil, .nil => rfl
  | _, _, _, .cons r t, .cons r' t' => by rw [r.inj r', Vals.inj t t']
section
variable {X : Cx} {pins : List (Addr × Obj)} {σ : St} {H : Hp} {s : Shared} {a : Addr} {xs ys : List V}
theorem SqL.of {K : PySem.W.Frag} (h : H a = some (.lst xs)) : SqL K H a xs := .inl (.inl h)
theorem SqT.of {K : PySem.W.Frag} (h : H a = some (.tup xs)) : SqT K H a xs := .inl (.inl h)
theorem Inv.list (I : Inv X pins σ H s) (h : SqL X.K H a xs) : ∃ its : List Value, Vals xs its ∧ PlainL s.heap a its.toArray ∧ xs.length ≤ sizeLine := by
  rcases h with h | ⟨o, its, n, hk, hc, hd, hs, hz, r⟩
  · obtain ⟨z, its, n, r, e⟩ := h.ok I.hok
    exact ⟨its, r, ⟨_, n, e, rfl, rfl, rfl⟩, z⟩
  · refine ⟨its.toList, r, ⟨o, n, I.kIn a o hk, hc, hd, by simpa using hs⟩, ?_⟩
    have e := r.length
    simp only [Array.length_toList] at e
    omega
theorem Inv.tuple (I : Inv X pins σ H s) (h : SqT X.K H a xs) : ∃ its : List Value, Vals xs its ∧ IsTup s.heap a its.toArray ∧ xs.length ≤ sizeLine := by
  rcases h with h | ⟨o, its, n, hk, hc, hs, hz, r⟩
  · obtain ⟨z, its, r, p⟩ := h.ok I.hok
    exact ⟨its, r, p, z⟩
  · refine ⟨its.toList, r, ⟨o, I.kIn a o hk, hc, n, by simpa using hs⟩, ?_⟩
    have e := r.length
    simp only [Array.length_toList] at e
    omega
theorem Inv.list_inj (I : Inv X pins σ H s) (h : SqL X.K H a xs) (h' : SqL X.K H a ys) : xs = ys := by
  obtain ⟨its, r, ⟨o, n, e, _, _, d⟩, _⟩ := I.list h
  obtain ⟨its', r', ⟨o', n', e', _, _, d'⟩, _⟩ := I.list h'
  rw [e] at e'; cases e'
  rw [d] at d'
  injection d' with d1 _
  have : its = its' := by simpa using congrArg Array.toList d1
  subst this
  exact r.inj r'
end

/-! ### another wish about exceptions -/
noncomputable abbrev Cx.wish (X : Cx) (E : Value → Shared → Prop) : Cx := { X with xe := E }
/-- no exception leaves -/
noncomputable abbrev Cx.nox (X : Cx) : Cx := X.wish fun _ _ => False
theorem Cx.Ok.wish {X : Cx} (ok : X.Ok) (E : Value → Shared → Prop) : (X.wish E).Ok :=
  ⟨ok.mod, ok.kind, ok.glob, ok.blt, ok.above, ok.inj, ok.has, ok.cab, ok.hd, ok.frames, ok.stk, ok.exf, ok.bs, ok.bsz, ok.noex, ok.exfs, ok.funs, ok.frf⟩
theorem Cx.Ok.unwish {X : Cx} {E : Value → Shared → Prop} (ok : (X.wish E).Ok) : X.Ok :=
  ⟨ok.mod, ok.kind, ok.glob, ok.blt, ok.above, ok.inj, ok.has, ok.cab, ok.hd, ok.frames, ok.stk, ok.exf, ok.bs, ok.bsz, ok.noex, ok.exfs, ok.funs, ok.frf⟩
section
variable {X : Cx} {pins : List (Addr × Obj)} {σ : St} {H : Hp} {s : Shared} {E : Value → Shared → Prop}
theorem Inv.wish (I : Inv X pins σ H s) (E : Value → Shared → Prop) : Inv (X.wish E) pins σ H s := ⟨I.ok.wish E, I.os, I.bare, I.base, I.loc, I.cell, I.free, I.freeC, I.pin, I.hok, I.len⟩
theorem Inv.unwish (I : Inv (X.wish E) pins σ H s) : Inv X pins σ H s := ⟨I.ok.unwish, I.os, I.bare, I.base, I.loc, I.cell, I.free, I.freeC, I.pin, I.hok, I.len⟩
theorem SP.unwish {D : Ends} {f : Flow} {s' : Shared} (h : SP (X.wish E) pins D f s') : SP X pins D f s' := by
  cases f with
  | next => obtain ⟨σ', H', I, q⟩ := h; exact ⟨σ', H', I.unwish, q⟩
  | brk => obtain ⟨σ', H', I, q⟩ := h; exact ⟨σ', H', I.unwish, q⟩
  | cont => obtain ⟨σ', H', I, q⟩ := h; exact ⟨σ', H', I.unwish, q⟩
  | ret u => obtain ⟨v, σ', H', I, r, q⟩ := h; exact ⟨v, σ', H', I.unwish, r, q⟩
theorem PSs.nox {st : List Stmt} {t : TS} (h : PSs X.nox st t) : PSs X st t := fun pins s σ H D I hw =>
  wpAny_mono (h pins s σ H D (I.wish _) hw) (fun _ _ q => q.unwish) fun _ _ z => False.elim z
end

/-! ### blocks and small statements -/
section
variable {X : Cx} {st : Stmt} {rest : List Stmt} {t u : TS} {e : Expr} {te : TE} {pos : Pos}
noncomputable def tNext : TS := fun D σ H => D.nx σ H
noncomputable def tSeq (t u : TS) : TS := fun D σ H => t { D with nx := u D } σ H
theorem pss_nil : PSs X [] tNext := fun _ _ σ H _ I h => wpAny_execs_nil ⟨σ, H, I, h⟩
theorem pss_cons (h1 : PS X st t) (h2 : PSs X rest u) : PSs X (st :: rest) (tSeq t u) := by
  intro pins s σ H D I h
  refine wpAny_execs_cons (thn (h1 pins s σ H { D with nx := u D } I h) fun f s1 q => ?_)
  cases f with
  | next =>
    obtain ⟨σ', H', I', q⟩ := q
    exact h2 pins s1 σ' H' D I' q
  | ret v => exact q
  | brk => exact q
  | cont => exact q
theorem pss_one (h1 : PS X st t) : PSs X [st] t := by
  intro pins s σ H D I h
  refine wpAny_execs_cons (thn (h1 pins s σ H D I h) fun f s1 q => ?_)
  cases f with
  | next => exact wpAny_execs_nil q
  | ret v => exact q
  | brk => exact q
  | cont => exact q
/-- in a def's body nothing is shown -/
theorem Inv.quiet {pins : List (Addr × Obj)} {σ : St} {H : Hp} {s : Shared} (I : Inv X pins σ H s) : interactive X.env = false := by simp [interactive, I.ok.kind]
/-- an expression whose value is dropped -/
noncomputable def tDrop (te : TE) : TS := fun D σ H => te σ H fun _ H1 => D.nx σ H1
theorem ps_expr (he : PE X e te) (hs : swapsWith e none pos.line X.env = pure false := by rfl) : PS X (.Expr e pos) (tDrop te) := by
  intro pins s σ H D I h
  exact wpAny_Expr_any (thn (he pins s σ H _ I h) fun v s1 ⟨x, H1, I1, r1, q1⟩ => ⟨σ, H1, I1, q1⟩) I.quiet hs
noncomputable def tRet (te : TE) : TS := fun D σ H => te σ H D.rt
theorem ps_ret (he : PE X e te) : PS X (.Return (some e) pos) (tRet te) := by
  intro pins s σ H D I h
  exact wpAny_Return_some (thn (he pins s σ H _ I h) fun v s1 ⟨x, H1, I1, r1, q1⟩ => ⟨x, σ, H1, I1, r1, q1⟩)
noncomputable def tIfS (c : TT) (t u : TS) : TS := fun D σ H => c σ H fun b H1 => if b = true then t D σ H1 else u D σ H1
theorem ps_if {c : Expr} {a b : List Stmt} {tc : TT} (hc : PT X c tc) (ha : PSs X a t) (hb : PSs X b u) : PS X (.If c a b pos) (tIfS tc t u) := by
  intro pins s σ H D I h
  refine wpAny_If (thn (hc pins s σ H _ I h) fun d s1 ⟨H1, I1, q1⟩ => ?_)
  cases d with
  | true => exact ha pins s1 σ H1 D I1 q1
  | false => exact hb pins s1 σ H1 D I1 q1
end

/-! ### targets -/
noncomputable abbrev TG := V → St → Hp → (St → Hp → Prop) → Prop
noncomputable abbrev TGs := List V → St → Hp → (St → Hp → Prop) → Prop
noncomputable def PG (X : Cx) (target : Expr) (t : TG) : Prop :=
  ∀ (pins : List (Addr × Obj)) (s : Shared) (σ : St) (H : Hp) (v : V) (u : Value) (Q : St → Hp → Prop), Inv X pins σ H s → RelV v u → t v σ H Q →
    wpAny (model X.prog X.w) X.A (assign target X.env u) (fun _ s' => ∃ σ' H', Inv X pins σ' H' s' ∧ Q σ' H') X.xe s
/-- several targets, one after another -/
noncomputable def PGs (X : Cx) (ts : List Expr) (t : TGs) : Prop :=
  ∀ (pins : List (Addr × Obj)) (s : Shared) (σ : St) (H : Hp) (vs : List V) (us : List Value) (Q : St → Hp → Prop), Inv X pins σ H s → Vals vs us → t vs σ H Q →
    wpAny (model X.prog X.w) X.A (assignInOrder ((assignEach ts X.env).map (·.2)) us) (fun _ s' => ∃ σ' H', Inv X pins σ' H' s' ∧ Q σ' H') X.xe s
/-- o[i] = v, by values -/
noncomputable abbrev TSet := V → V → V → Hp → (Hp → Prop) → Prop
noncomputable def PSet (X : Cx) (t : TSet) : Prop :=
  ∀ (pins : List (Addr × Obj)) (s : Shared) (σ : St) (H : Hp) (o i v : V) (ov iv u : Value) (Q : Hp → Prop), Inv X pins σ H s → RelV o ov → RelV i iv → RelV v u → t o i v H Q →
    wpAny (model X.prog X.w) X.A (setItem ov iv u) (fun _ s' => ∃ H', Inv X pins σ H' s' ∧ Q H') X.xe s
section
variable {X : Cx} {pos : Pos}
noncomputable def gName (i : Nat) : TG := fun v σ H Q => Q (σ.set i (some v)) H
theorem pg_name {i : Nat} {x : Str} (hN : X.N.Nodup) (hi : X.N[i]? = some x) (hx : Loc X.env.scope x) (hf : X.fn x = true ∨ X.env.scope.names.lookup x = some .local := by first | exact .inl rfl | exact .inr rfl | assumption) : PG X (.Name x pos) (gName i) := by
  intro pins s σ H v u Q I r h
  exact wpAny_assign_Name (store_ok I hN hi hx r (fun s' I' => ⟨_, H, I', h⟩) hf)
noncomputable def gNil : TGs := fun vs σ H Q => vs = [] ∧ Q σ H
noncomputable def gCons (t : TG) (u : TGs) : TGs := fun vs σ H Q => ∃ v r, vs = v :: r ∧ t v σ H fun σ' H' => u r σ' H' Q
theorem pgs_nil : PGs X [] gNil := by
  intro pins s σ H vs us Q I r h
  obtain ⟨e, h⟩ := h
  subst e
  cases r
  exact assignInOrder_nil ⟨σ, H, I, h⟩
theorem pgs_cons {e : Expr} {es : List Expr} {t : TG} {u : TGs} (h1 : PG X e t) (h2 : PGs X es u)
    (hs : (assignEach (e :: es) X.env).map (·.2) = assign e X.env :: (assignEach es X.env).map (·.2) := by rfl) : PGs X (e :: es) (gCons t u) := by
  intro pins s σ H vs us Q I r h
  obtain ⟨v, vr, e1, h⟩ := h
  subst e1
  cases r with
  | cons r rr =>
    rw [hs]
    refine assignInOrder_cons (thn (h1 pins s σ H _ _ _ I r h) fun _ s1 ⟨σ1, H1, I1, q1⟩ => ?_)
    exact h2 pins s1 σ1 H1 _ _ Q I1 rr q1
/-- (a, b, ..) = a tuple of that length -/
noncomputable def gTup (K : PySem.W.Frag) (n : Nat) (t : TGs) : TG := fun v σ H Q => ∃ a xs, v = .ref a ∧ SqT K H a xs ∧ xs.length = n ∧ t xs σ H Q
theorem pg_tup {es : List Expr} {k : Nat} {t : TGs} {n : Nat} (hc : X.calm = true) (h : PGs X es t)
    (hn : (assignEach es X.env).length = n := by rfl) (hst : (assignEach es X.env).findIdx? (·.1) = none := by rfl) : PG X (.Tuple es k pos) (gTup X.K n t) := by
  intro pins s σ H v u Q I r hw
  obtain ⟨a, xs, e1, hq, hl, hw⟩ := hw
  subst e1
  cases r
  obtain ⟨its, rv, ht, hz⟩ := I.tuple hq
  refine assign_Tuple_tuple (I.ok.hd hc) ht (by simp [hn, ← hl, rv.length]) hst fun h' hx => ?_
  have I1 : Inv X pins σ H { s with heap := h' } := I.kept (t' := s.toks) fun b o e => hx b o (Nat.ne_of_lt (Heap.lt_size e)) e
  exact h pins _ σ H xs _ Q I1 (by simpa using rv) hw
/-- o[i] = .. -/
noncomputable def gSub (to ti : TE) (t : TSet) : TG := fun v σ H Q => to σ H fun o H1 => ti σ H1 fun i H2 => t o i v H2 fun H3 => Q σ H3
theorem pg_sub {o i : Expr} {to ti : TE} {t : TSet} (ho : PE X o to) (hi : PE X i ti) (hs : PSet X t)
    (ha : ∀ v, assign (.Subscript o i pos) X.env v = (do
      let ov ← holding [v] (eval o X.env)
      let iv ← holding [v, ov] (eval i X.env)
      standAt pos
      holding [v, ov, iv] (setItem ov iv v)
      release [v, ov, iv] []) := by intro _; rfl) : PG X (.Subscript o i pos) (gSub to ti t) := by
  intro pins s σ H v u Q I r h
  rw [ha]
  refine wpAny_bind (wpAny_holding (thn (ho pins s σ H _ I h) fun ov s1 ⟨x, H1, I1, r1, q1⟩ => ?_))
  refine wpAny_bind (wpAny_holding (thn (hi pins s1 σ H1 _ I1 q1) fun iv s2 ⟨y, H2, I2, r2, q2⟩ => ?_))
  refine wpAny_bind (wpAny_standAt (wpAny_bind (wpAny_holding (thn (hs pins s2 σ H2 x y v ov iv u _ I2 r1 r2 r q2) fun _ s3 ⟨H3, I3, q3⟩ => ?_))))
  exact wpAny_release ⟨σ, H3, I3, q3⟩
/-- target = value -/
noncomputable def tAsg (te : TE) (g : TG) : TS := fun D σ H => te σ H fun x H1 => g x σ H1 D.nx
theorem ps_asg {tg e : Expr} {te : TE} {g : TG} (he : PE X e te) (hg : PG X tg g) (hs : swapsWithSole [tg] e pos.line X.env = pure false := by rfl) (hw : swappedStores [tg] e X.env = pure none := by rfl)
    (h1 : (assignEach [tg] X.env).map (·.2) = [assign tg X.env] := by rfl) : PS X (.Assign [tg] e pos) (tAsg te g) := by
  intro pins s σ H D I h
  refine wpAny_Assign_stores (thn (he pins s σ H _ I h) fun v s1 ⟨x, H1, I1, r1, q1⟩ => ?_) hs hw
  rw [h1]
  exact thn (hg pins s1 σ H1 x v _ I1 r1 q1) fun _ s2 q => q
/-- name = value -/
theorem ps_set {i : Nat} {x : Str} {e : Expr} {te : TE} {pos' : Pos} (hN : X.N.Nodup) (hi : X.N[i]? = some x) (hx : Loc X.env.scope x) (he : PE X e te) (hs : swapsWith e (some (.Name x pos')) pos.line X.env = pure false := by rfl) (hf : X.fn x = true ∨ X.env.scope.names.lookup x = some .local := by first | exact .inl rfl | exact .inr rfl | assumption) :
    PS X (.Assign [.Name x pos'] e pos) (tAsg te (gName i)) := by
  intro pins s σ H D I h
  refine wpAny_Assign_Name (thn (he pins s σ H _ I h) fun v s1 ⟨y, H1, I1, r1, q1⟩ => ?_) hs
  exact store_ok I1 hN hi hx r1 (fun s2 I2 => ⟨_, H1, I2, q1⟩) hf
end

/-! ### while -/
section
variable {X : Cx} {pos : Pos}
/-- the invariant W with its measure -/
noncomputable def tWhile (c : TT) (tb : TS) : TS := fun D σ H => ∃ W : Nat → St → Hp → Prop, (∃ m, W m σ H) ∧ ∀ m σ H, W m σ H →
  c σ H fun b H1 => if b = true then ∃ N : St → Hp → Prop, (∀ σ' H', N σ' H' → ∃ m', m' < m ∧ W m' σ' H') ∧ tb { D with nx := N, ct := N, bk := D.nx } σ H1 else D.nx σ H1
theorem ps_while {c : Expr} {body : List Stmt} {tc : TT} {tb : TS} (hp : PassesOwn (model X.prog X.w) X.A X.env X.xe) (hc : PT X c tc) (hb : PSs X body tb) : PS X (.While c body [] pos) (tWhile tc tb) := by
  intro pins s σ H D I h
  obtain ⟨W, ⟨m0, w0⟩, turn⟩ := h
  refine wpAny_While (codeAny_whileLoop (fun n s' => ∃ σ' H', Inv X pins σ' H' s' ∧ W n σ' H') ?_ m0 ⟨σ, H, I, w0⟩)
  rintro n s1 ⟨σ1, H1, I1, w1⟩
  refine wpAny_passesOwn hp (thn (hc pins s1 σ1 H1 _ I1 (turn n σ1 H1 w1)) fun b s2 ⟨H2, I2, q2⟩ => ?_)
  cases b with
  | true =>
    obtain ⟨N, hN, q2⟩ := q2
    rw [if_pos rfl]
    refine wpAny_passesOwn hp (thn (hb pins s2 σ1 H2 _ I2 q2) fun f s3 q3 => ?_)
    cases f with
    | next =>
      obtain ⟨σ3, H3, I3, n3⟩ := q3
      obtain ⟨m', hm, w3⟩ := hN σ3 H3 n3
      exact ⟨m', hm, σ3, H3, I3, w3⟩
    | cont =>
      obtain ⟨σ3, H3, I3, n3⟩ := q3
      obtain ⟨m', hm, w3⟩ := hN σ3 H3 n3
      exact ⟨m', hm, σ3, H3, I3, w3⟩
    | brk => exact q3
    | ret v => exact q3
  | false =>
    rw [if_neg Bool.false_ne_true]
    exact wpAny_execs_nil ⟨σ1, H2, I2, q2⟩
end

/-! ### what a loop or a comprehension walks -/
/-- at turn i: it yields x (the heap may grow), or it stops -/
structure It where
  go : Nat → Hp → Prop
  yld : Nat → Hp → V → Hp → Prop
  stop : Nat → Hp → Prop
/-- the iterator's own objects may turn: they are not the frame's, not pinned, younger than the entry (or a comprehension's own) -/
noncomputable def FpOk (X : Cx) (pins : List (Addr × Obj)) (H : Hp) (b : Addr) : Prop :=
  H b = none ∧ b ≠ X.env.locals ∧ b ∉ X.fs ∧ (b ∈ X.ex ∨ X.s₀.heap.objs.size ≤ b) ∧ (∀ x c, X.env.cells.lookup x = some c → c ≠ b) ∧ ∀ p ∈ X.pn ++ pins, p.1 ≠ b
theorem Inv.fpOk {X : Cx} {pins : List (Addr × Obj)} {σ : St} {H H' : Hp} {s : Shared} {b : Addr} (I : Inv X pins σ H s) (hb : s.heap.objs.size ≤ b) (hn : H' b = none) : FpOk X pins H' b := by
  refine ⟨hn, Nat.ne_of_gt (Nat.lt_of_lt_of_le I.lt hb), I.nofs hb, .inr (Nat.le_trans I.sz hb), fun x c e z => ?_, fun p hp z => ?_⟩
  · obtain ⟨v, q⟩ := I.cell x c e
    exact absurd (Nat.lt_of_lt_of_le q.lt (by rw [z]; exact hb)) (Nat.lt_irrefl _)
  · exact absurd (Nat.lt_of_lt_of_le (Heap.lt_size (I.pin p hp).1) (by rw [z]; exact hb)) (Nat.lt_irrefl _)
structure Turn (P : Program) (w : World) (K : PySem.W.Frag) (tg : Expr) (J : It) (fp : List Addr) (it : Addr) (tn : Nat → Heap → Prop) : Prop where
  mem : it ∈ fp
  obj : ∀ i h, tn i h → ∀ b ∈ fp, ∃ o, h.get? b = some o ∧ ∀ v, o.data ≠ .cell v
  keep : ∀ i h h', tn i h → (∀ b ∈ fp, ∀ o, h.get? b = some o → h'.get? b = some o) → tn i h'
  item : ∀ (X : Cx), X.prog = P → X.w = w → X.K = K → X.calm = true → ∀ (i : Nat) (pins : List (Addr × Obj)) (s : Shared) (σ : St) (H : Hp) (E : Value → Shared → Prop), Inv X pins σ H s → (∀ b ∈ fp, FpOk X pins H b) → tn i s.heap → J.go i H →
    wpAny (model P w) X.A (pyNext (.ref it)) (fun r s1 => ∃ u, r = some u ∧
      wpAny (model P w) X.A (letOwnedTupleGo tg (.ref it) u) (fun _ s2 => ∃ x H', Inv X pins σ H' s2 ∧ RelV x u ∧ J.yld i H x H' ∧ tn (i + 1) s2.heap ∧ ∀ b ∈ fp, H' b = none) E s1) E s
  done : ∀ (X : Cx), X.prog = P → X.w = w → X.K = K → X.calm = true → ∀ (i : Nat) (pins : List (Addr × Obj)) (s : Shared) (σ : St) (H : Hp) (E : Value → Shared → Prop), Inv X pins σ H s → (∀ b ∈ fp, FpOk X pins H b) → tn i s.heap → J.stop i H →
    wpAny (model P w) X.A (pyNext (.ref it)) (fun r s1 => r = none ∧ Inv X pins σ H s1) E s
  self : ∀ (A : Around) (i : Nat) (s : Shared) (Q : Value → Shared → Prop) (E : Value → Shared → Prop), tn i s.heap → Q (.ref it) s → wpAny (model P w) A (pyIter (.ref it)) Q E s
noncomputable abbrev TI := St → Hp → (It → Hp → Prop) → Prop
/-- an iterator has come -/
noncomputable def PIE (X : Cx) (pins : List (Addr × Obj)) (σ : St) (tg : Expr) (R : It → Hp → Prop) (itv : Value) (s2 : Shared) : Prop :=
  ∃ (it : Addr) (fp : List Addr) (tn : Nat → Heap → Prop) (J : It) (H' : Hp), itv = .ref it ∧ Inv X pins σ H' s2 ∧ Turn X.prog X.w X.K tg J fp it tn ∧ tn 0 s2.heap ∧ (∀ b ∈ fp, FpOk X pins H' b) ∧ R J H'
noncomputable def PI (X : Cx) (tg iter : Expr) (wi : TI) : Prop :=
  ∀ (pins : List (Addr × Obj)) (s : Shared) (σ : St) (H : Hp) (R : It → Hp → Prop), Inv X pins σ H s → wi σ H R →
    wpAny (model X.prog X.w) X.A (eval iter X.env) (fun v s1 => wpAny (model X.prog X.w) X.A (pyIter v) (PIE X pins σ tg R) X.xe s1) X.xe s

/-- the step ahead of the store is nothing for an iterator that keeps no tuple -/
theorem go_of {M : Model} {A : Around} {E : Value → Shared → Prop} {s : Shared} {tg : Expr} {it : Addr} {u : Value} {o : Obj} {n : String} {vs : Array Value} {Q : Unit → Shared → Prop} (ho : s.heap.get? it = some o) (hc : o.cls = .type n) (hd : o.data = .fields vs)
    (hn : ["enumerate", "zip", "dict_itemiterator", "dict_reverseitemiterator", "odict_iterator", "itertools.zip_longest", "itertools.pairwise"].contains n = false) (hQ : Q () s) : wpAny M A (letOwnedTupleGo tg (.ref it) u) Q E s := by
  unfold letOwnedTupleGo
  cases tg <;> first
    | exact wpAny_pure hQ
    | (cases u <;> first
        | exact wpAny_pure hQ
        | (refine wpAny_bind (wpAny_load ho ?_)
           rw [hc, hd]
           show wpAny M A (if (["enumerate", "zip", "dict_itemiterator", "dict_reverseitemiterator", "odict_iterator", "itertools.zip_longest", "itertools.pairwise"].contains n && vs[0]? == some (rawInt _)) = true then _ else _) Q E s
           rw [if_neg (by intro h; rw [hn, Bool.false_and] at h; cases h)]
           exact wpAny_pure hQ))

/-- the list at a, as it stands at each turn (a loop may append to it) -/
noncomputable def Itl (K : PySem.W.Frag) (a : Addr) : It :=
  ⟨fun i H => ∃ xs x, SqL K H a xs ∧ xs[i]? = some x, fun i H x H' => H' = H ∧ ∀ xs, SqL K H a xs → xs[i]? = some x, fun i H => ∃ xs, SqL K H a xs ∧ xs.length ≤ i⟩
/-- lo, lo + 1, .. (n of them) -/
noncomputable def Itr (lo : Int) (n : Nat) : It := ⟨fun i _ => i < n, fun i H x H' => H' = H ∧ x = .int (lo + i), fun i _ => n ≤ i⟩
theorem turn_list {P : Program} {w : World} {K : PySem.W.Frag} {tg : Expr} (a it : Addr) : Turn P w K tg (Itl K a) [it] it (fun i h => h.IsListIter it a i) where
  mem := by simp
  obj := fun i h st b hb => by
    have e : b = it := by simpa using hb
    subst e
    obtain ⟨o, e, c, d⟩ := st
    exact ⟨o, e, fun v z => by rw [d] at z; cases z⟩
  keep := fun i h h' st k => st.at fun o e => k it (by simp) o e
  item := by
    intro X hP hw hK hc i pins s σ H E I hf st hg
    subst hP hw hK
    obtain ⟨xs, x, hq, hx⟩ := hg
    obtain ⟨its, rv, p, hz⟩ := I.list hq
    obtain ⟨u, hu, ru⟩ := rv.get hx
    obtain ⟨f0, f1, f2, f3, f4, f5⟩ := hf it (by simp)
    refine wpAny_pyNext_list_item st p.isList (x := u) (by simpa using hu) fun h' st' sb => ?_
    have I1 : Inv X pins σ H { s with heap := h' } := I.turned (t' := s.toks) (fun b o hb e => (sb.2 b hb).trans e) f0 f1 f3 f4 f5
    obtain ⟨o, e, c, d⟩ := id st'
    exact ⟨u, rfl, go_of (s := { s with heap := h' }) e c d (by decide) ⟨x, H, I1, ru, ⟨rfl, fun ys hy => by rw [I.list_inj hy hq]; exact hx⟩, st', fun b hb => (hf b hb).1⟩⟩
  done := by
    intro X hP hw hK hc i pins s σ H E I hf st hg
    subst hP hw hK
    obtain ⟨xs, hq, hx⟩ := hg
    obtain ⟨its, rv, p, hz⟩ := I.list hq
    obtain ⟨f0, f1, f2, f3, f4, f5⟩ := hf it (by simp)
    have hl := rv.length
    exact wpAny_pyNext_list_end (I.ok.hd hc) st p.isList (by simp; omega) fun h' eb => ⟨rfl, I.turned (t' := s.toks) (fun b o hb e => eb b o hb e) f0 f1 f3 f4 f5⟩
  self := fun _ _ _ _ _ st h => wpAny_pyIter_listiter st h
theorem turn_range {P : Program} {w : World} {K : PySem.W.Frag} {tg : Expr} (it : Addr) (lo : Int) (n : Nat) : Turn P w K tg (Itr lo n) [it] it (fun i h => IsRangeIter h it (lo + (i : Nat) * 1) ((n : Int) - (i : Nat)) 1) where
  mem := by simp
  obj := fun i h st b hb => by
    have e : b = it := by simpa using hb
    subst e
    exact ⟨_, st, fun v z => by
      have z' : Data.fields _ = Data.cell v := z
      cases z'⟩
  keep := fun i h h' st k => k it (by simp) _ st
  item := by
    intro X hP hw hK hc i pins s σ H E I hf st hg
    subst hP hw hK
    obtain ⟨f0, f1, f2, f3, f4, f5⟩ := hf it (by simp)
    have W := Walks.range (prog := X.prog) (w := X.w) (I.ok.hd hc) it lo 1 n
    refine W.item i s _ _ hg st fun v h' tk hv st' kk => ?_
    obtain ⟨t, rfl⟩ := hv
    have I1 : Inv X pins σ H { s with heap := h', toks := tk } := I.turned (fun b o hb e => kk b o (by simpa using hb) e) f0 f1 f3 f4 f5
    refine ⟨_, rfl, go_of (s := { s with heap := h', toks := tk }) (n := "range_iterator") st' rfl rfl (by decide) ⟨.int (lo + i), H, I1, ⟨t, ?_⟩, ⟨rfl, rfl⟩, st', fun b hb => (hf b hb).1⟩⟩
    rw [Int.mul_one]
  done := by
    intro X hP hw hK hc i pins s σ H E I hf st hg
    subst hP hw hK
    obtain ⟨f0, f1, f2, f3, f4, f5⟩ := hf it (by simp)
    exact wpAny_pyNext_range_end (I.ok.hd hc) st (by have : n ≤ i := hg; omega) fun h' eb => ⟨rfl, I.turned (t' := s.toks) (fun b o hb e => eb b o hb e) f0 f1 f3 f4 f5⟩
  self := fun _ _ _ _ _ st h => wpAny_pyIter_rangeiter st h
end L2

namespace L2
open PySem PySem.Spec PyProof.Rows
section
variable {X : Cx} {tg : Expr}
noncomputable def iList (K : PySem.W.Frag) (tl : TE) : TI := fun σ H R => tl σ H fun x H1 => ∃ a, x = .ref a ∧ (∃ xs, SqL K H1 a xs) ∧ R (Itl K a) H1
theorem pi_list {l : Expr} {tl : TE} (hl : PE X l tl) : PI X tg l (iList X.K tl) := by
  intro pins s σ H R I h
  refine thn (hl pins s σ H _ I h) fun v s1 ⟨x, H1, I1, r1, q1⟩ => ?_
  obtain ⟨a, e, ⟨xs, hq⟩, q⟩ := q1
  subst e
  cases r1
  obtain ⟨its, rv, p, hz⟩ := I1.list hq
  refine wpAny_pyIter_list p.isList ?_
  refine ⟨s1.heap.objs.size, [s1.heap.objs.size], _, _, H1, rfl, I1.kept (t' := s1.toks) fun b o e => Heap.get?_push_of_some _ e, turn_list a _, ⟨_, Heap.get?_push_size _ rfl, rfl, rfl⟩, fun b hb => ?_, q⟩
  have e : b = s1.heap.objs.size := by simpa using hb
  subst e
  exact I1.fpOk (Nat.le_refl _) (I1.hok.fresh (Nat.le_refl _))
/-- a range object just made, walked -/
theorem range_it {pins : List (Addr × Obj)} {σ : St} {H : Hp} {s : Shared} {R : It → Hp → Prop} {E : Value → Shared → Prop} {lo hi : Int} {t u v : Tok} {tk : Nat} (I : Inv X pins σ H s) (h1 : -(2 ^ 62) ≤ lo) (h2 : lo < 2 ^ 62) (h3 : -(2 ^ 62) ≤ hi) (h4 : hi < 2 ^ 62)
    (q : R (Itr lo (hi - lo).toNat) H) : wpAny (model X.prog X.w) X.A (pyIter (.ref s.heap.objs.size)) (PIE X pins σ tg R) E { s with heap := s.heap.push { cls := .type "range", data := .fields #[.int lo t, .int hi u, .int 1 v] }, toks := tk } := by
  refine wpAny_pyIter_range (IsRange.new ..) (small_one h1 h2 h3 h4) ?_
  have I1 : Inv X pins σ H { s with heap := s.heap.push { cls := .type "range", data := .fields #[.int lo t, .int hi u, .int 1 v] }, toks := tk } := I.kept fun b o e => Heap.get?_push_of_some _ e
  refine ⟨(s.heap.push { cls := .type "range", data := .fields #[.int lo t, .int hi u, .int 1 v] }).objs.size, [(s.heap.push { cls := .type "range", data := .fields #[.int lo t, .int hi u, .int 1 v] }).objs.size], _, _, H, rfl,
    I1.kept (t' := tk) fun b o e => Heap.get?_push_of_some _ e, turn_range _ lo (hi - lo).toNat, ?_, fun b hb => ?_, q⟩
  · have e1 : lo + ((0 : Nat) : Int) * 1 = lo := by simp
    have e2 : (((hi - lo).toNat : Nat) : Int) - ((0 : Nat) : Int) = Builtin.Range.rangeSize lo hi 1 := by rw [rangeSize_one]; split <;> omega
    show IsRangeIter _ _ (lo + ((0 : Nat) : Int) * 1) ((((hi - lo).toNat : Nat) : Int) - ((0 : Nat) : Int)) 1
    rw [e1, e2]
    exact Heap.get?_push_size _ rfl
  · have e : b = (s.heap.push { cls := .type "range", data := .fields #[.int lo t, .int hi u, .int 1 v] }).objs.size := by simpa using hb
    subst e
    exact I1.fpOk (Nat.le_refl _) (I1.hok.fresh (Nat.le_refl _))
noncomputable def iRng1 (ta : TA) : TI := fun σ H R => ta σ H fun vs H1 => ∃ j : Int, vs = [.int j] ∧ -(2 ^ 62) ≤ j ∧ j < 2 ^ 62 ∧ R (Itr 0 j.toNat) H1
theorem pi_range1 {a : Expr} {ta : TA} {p pos : Pos} (hg : Gl X "range") (hm : X.mg "range" = none) (ha : PA X [a] ta) (hs : starEach [a] X.env = [(false, eval a X.env)] := by rfl) : PI X tg (.Call (.Name "range" p) [a] [] pos) (iRng1 ta) := by
  intro pins s σ H R I h
  refine Call_ (ld_blt I hg hm boot_range (PyProof.Rows.callWith_type1 (thn (ha pos pins s σ H _ I h) fun us s1 ⟨vs, H1, I1, r1, q1⟩ => ?_) hs rfl))
  obtain ⟨j, e, q1, q2, q⟩ := q1
  subst e
  cases r1 with
  | cons r rr =>
    cases rr
    obtain ⟨t, rfl⟩ := r
    exact call_range_1 (range_it I1 (by omega) (by omega) q1 q2 (by simpa using q))
/-! ### for -/
/-- W: the invariant by the turn and a measure; N: what the body is to reach -/
noncomputable def tFor (wi : TI) (g : TG) (tb : TS) : TS := fun D σ H => wi σ H fun J H1 => ∃ W : Nat → Nat → St → Hp → Prop, (∃ m, W 0 m σ H1) ∧ ∀ i m σ H, W i m σ H →
  (J.stop i H ∧ D.nx σ H) ∨ (J.go i H ∧ ∃ N : St → Hp → Prop, (∀ σ' H', N σ' H' → ∃ m', m' < m ∧ W (i + 1) m' σ' H') ∧ ∀ x H', J.yld i H x H' → g x σ H' fun σ2 H2 => tb { D with nx := N, ct := N, bk := D.nx } σ2 H2)
/-- the records at fp as they stand -/
noncomputable def pinsAt (fp : List Addr) (h : Heap) : List (Addr × Obj) := fp.filterMap fun b => (h.get? b).map fun o => (b, o)
theorem mem_pinsAt {fp : List Addr} {h : Heap} {b : Addr} {o : Obj} (hb : b ∈ fp) (e : h.get? b = some o) : (b, o) ∈ pinsAt fp h := List.mem_filterMap.mpr ⟨b, hb, by rw [e]; rfl⟩
theorem of_pinsAt {fp : List Addr} {h : Heap} {p : Addr × Obj} (hp : p ∈ pinsAt fp h) : p.1 ∈ fp ∧ h.get? p.1 = some p.2 := by
  obtain ⟨b, hb, e⟩ := List.mem_filterMap.mp hp
  cases q : h.get? b with
  | none => rw [q] at e; cases e
  | some o =>
    rw [q] at e
    have e' : (b, o) = p := Option.some.inj e
    subst e'
    exact ⟨hb, q⟩
theorem Inv.pinned {pins : List (Addr × Obj)} {σ : St} {H : Hp} {s : Shared} {fp : List Addr} (I : Inv X pins σ H s) (hf : ∀ b ∈ fp, FpOk X pins H b) (ho : ∀ b ∈ fp, ∃ o, s.heap.get? b = some o ∧ ∀ v, o.data ≠ .cell v) : Inv X (pins ++ pinsAt fp s.heap) σ H s :=
  I.pins_of fun p hp => (List.mem_append.mp hp).elim (fun z => I.pin p (List.mem_append_right _ z)) fun z => by
    obtain ⟨hb, e⟩ := of_pinsAt z
    obtain ⟨f0, f1, f2, _⟩ := hf p.1 hb
    obtain ⟨o, e', d⟩ := ho p.1 hb
    rw [e] at e'; cases e'
    exact ⟨e, f0, f1, f2, d⟩
theorem Inv.unpinned {pins pl : List (Addr × Obj)} {σ : St} {H : Hp} {s : Shared} (I : Inv X (pins ++ pl) σ H s) : Inv X pins σ H s := I.pins_of fun p hp => I.pin p (List.mem_append_right _ (List.mem_append_left _ hp))
theorem ps_for {iter : Expr} {body : List Stmt} {wi : TI} {g : TG} {tb : TS} {pos : Pos} (hp : PassesOwn (model X.prog X.w) X.A X.env X.xe) (hc : X.calm = true) (hi : PI X tg iter wi) (hg : PG X tg g) (hb : PSs X body tb)
    (hs : ∀ x, foldedSetIterable iter X.env x = pure x := by intro _; rfl) : PS X (.For tg iter body [] pos) (tFor wi g tb) := by
  intro pins s σ H D I h
  refine wpAny_For (thn (hi pins s σ H _ I h) fun v s1 h1 => thn h1 fun itv s2 h2 => ?_) hs
  obtain ⟨it, fp, tn, J, H2, e, I2, T, st2, f2, W, ⟨m0, w0⟩, turn⟩ := h2
  subst e
  -- what stays true of the iterator's objects through the loop
  have stat : ∀ {H' : Hp}, (∀ b ∈ fp, H' b = none) → ∀ b ∈ fp, FpOk X pins H' b := fun hn b hb => ⟨hn b hb, (f2 b hb).2⟩
  refine codeAny_forLoop_any (fun n s' => ∃ i σ' H', Inv X pins σ' H' s' ∧ tn i s'.heap ∧ (∀ b ∈ fp, H' b = none) ∧ W i n σ' H') ?_ m0 ⟨0, σ, H2, I2, st2, fun b hb => (f2 b hb).1, w0⟩
  rintro n s3 ⟨i, σ3, H3, I3, st3, fr3, w3⟩
  rcases turn i n σ3 H3 w3 with ⟨stop, qn⟩ | ⟨go, N, hN, step⟩
  · refine wpAny_passesOwn hp (thn (T.done X rfl rfl rfl hc i pins s3 σ3 H3 X.xe I3 (stat fr3) st3 stop) fun r s4 ⟨hr, I4⟩ => ?_)
    subst hr
    exact wpAny_execs_nil ⟨σ3, H3, I4, qn⟩
  · refine wpAny_passesOwn hp (thn (T.item X rfl rfl rfl hc i pins s3 σ3 H3 X.xe I3 (stat fr3) st3 go) fun r s4 ⟨u, hr, h4⟩ => ?_)
    subst hr
    refine wpAny_passesOwn hp (thn h4 fun _ s5 ⟨x, H5, I5, r5, y5, st5, fr5⟩ => ?_)
    have I5' := I5.pinned (stat fr5) (T.obj _ _ st5)
    refine wpAny_passesOwn hp (thn (hg _ s5 σ3 H5 x u _ I5' r5 (step x H5 y5)) fun _ s6 ⟨σ6, H6, I6, q6⟩ => ?_)
    refine wpAny_passesOwn hp (thn (hb _ s6 σ6 H6 _ I6 q6) fun f s7 q7 => ?_)
    have again : ∀ {σ7 : St} {H7 : Hp}, Inv X (pins ++ pinsAt fp s5.heap) σ7 H7 s7 → N σ7 H7 → ∃ m, m < n ∧ ∃ i σ' H', Inv X pins σ' H' s7 ∧ tn i s7.heap ∧ (∀ b ∈ fp, H' b = none) ∧ W i m σ' H' := fun {σ7 H7} I7 n7 => by
      obtain ⟨m', hm, w7⟩ := hN σ7 H7 n7
      refine ⟨m', hm, i + 1, σ7, H7, I7.unpinned, T.keep _ _ _ st5 fun b hb o e => (I7.pin (b, o) (List.mem_append_right _ (List.mem_append_right _ (mem_pinsAt hb e)))).1, fun b hb => ?_, w7⟩
      obtain ⟨o, e, d⟩ := T.obj _ _ st5 b hb
      exact (I7.pin (b, o) (List.mem_append_right _ (List.mem_append_right _ (mem_pinsAt hb e)))).2.1
    cases f with
    | next => obtain ⟨σ7, H7, I7, n7⟩ := q7; exact again I7 n7
    | cont => obtain ⟨σ7, H7, I7, n7⟩ := q7; exact again I7 n7
    | brk => obtain ⟨σ7, H7, I7, q7⟩ := q7; exact ⟨σ7, H7, I7.unpinned, q7⟩
    | ret v => obtain ⟨x7, σ7, H7, I7, r7, q7⟩ := q7; exact ⟨x7, σ7, H7, I7.unpinned, r7, q7⟩
end

/-! ### the forms one uses -/
/-- over a list that the body leaves as it is -/
theorem for_list {K : PySem.W.Frag} {a : Addr} {xs : List V} {g : TG} {tb : TS} {D : Ends} {σ : St} {H : Hp} (Pv : Nat → St → Hp → Prop) (h0 : Pv 0 σ H) (hl : ∀ i σ H, i ≤ xs.length → Pv i σ H → SqL K H a xs)
    (hs : ∀ i x σ H, xs[i]? = some x → Pv i σ H → g x σ H fun σ2 H2 => tb { D with nx := Pv (i + 1), ct := Pv (i + 1), bk := D.nx } σ2 H2) (hd : ∀ σ H, Pv xs.length σ H → D.nx σ H) :
    ∃ W : Nat → Nat → St → Hp → Prop, (∃ m, W 0 m σ H) ∧ ∀ i m σ H, W i m σ H →
      ((Itl K a).stop i H ∧ D.nx σ H) ∨ ((Itl K a).go i H ∧ ∃ N : St → Hp → Prop, (∀ σ' H', N σ' H' → ∃ m', m' < m ∧ W (i + 1) m' σ' H') ∧ ∀ x H', (Itl K a).yld i H x H' → g x σ H' fun σ2 H2 => tb { D with nx := N, ct := N, bk := D.nx } σ2 H2) := by
  refine ⟨fun i m σ H => m = xs.length - i ∧ i ≤ xs.length ∧ Pv i σ H, ⟨xs.length, by simp, Nat.zero_le _, h0⟩, ?_⟩
  rintro i m σ H ⟨rfl, hi, p⟩
  have q := hl i σ H hi p
  by_cases hlt : i < xs.length
  · refine .inr ⟨⟨xs, xs[i], q, by simp [hlt]⟩, Pv (i + 1), fun σ' H' p' => ⟨xs.length - (i + 1), by omega, rfl, hlt, p'⟩, fun x H' y => ?_⟩
    obtain ⟨e, y⟩ := y
    subst e
    exact hs i x σ _ (y xs q) p
  · have e : i = xs.length := by omega
    subst e
    exact .inl ⟨⟨xs, q, Nat.le_refl _⟩, hd σ H p⟩
theorem for_range {lo : Int} {n : Nat} {g : TG} {tb : TS} {D : Ends} {σ : St} {H : Hp} (Pv : Nat → St → Hp → Prop) (h0 : Pv 0 σ H)
    (hs : ∀ i σ H, i < n → Pv i σ H → g (.int (lo + i)) σ H fun σ2 H2 => tb { D with nx := Pv (i + 1), ct := Pv (i + 1), bk := D.nx } σ2 H2) (hd : ∀ σ H, Pv n σ H → D.nx σ H) :
    ∃ W : Nat → Nat → St → Hp → Prop, (∃ m, W 0 m σ H) ∧ ∀ i m σ H, W i m σ H →
      ((Itr lo n).stop i H ∧ D.nx σ H) ∨ ((Itr lo n).go i H ∧ ∃ N : St → Hp → Prop, (∀ σ' H', N σ' H' → ∃ m', m' < m ∧ W (i + 1) m' σ' H') ∧ ∀ x H', (Itr lo n).yld i H x H' → g x σ H' fun σ2 H2 => tb { D with nx := N, ct := N, bk := D.nx } σ2 H2) := by
  refine ⟨fun i m σ H => m = n - i ∧ i ≤ n ∧ Pv i σ H, ⟨n, by simp, Nat.zero_le _, h0⟩, ?_⟩
  rintro i m σ H ⟨rfl, hi, p⟩
  by_cases hlt : i < n
  · refine .inr ⟨hlt, Pv (i + 1), fun σ' H' p' => ⟨n - (i + 1), by omega, rfl, hlt, p'⟩, fun x H' y => ?_⟩
    obtain ⟨e, y⟩ := y
    subst e y
    exact hs i σ _ hlt p
  · have e : i = n := by omega
    subst e
    exact .inl ⟨Nat.le_refl _, hd σ H p⟩
end L2

namespace L2
open PySem PySem.Spec PyProof.Rows

noncomputable abbrev R2 := V → V → Hp → VK → Prop
/-- a two-place operation on values: f is binaryOp op, inplaceOp op or compareOp op -/
noncomputable def OpR (X : Cx) (f : Value → Value → Sem Value) (r : R2) : Prop :=
  ∀ (pins : List (Addr × Obj)) (s : Shared) (σ : St) (H : Hp) (x y : V) (v u : Value) (Q : VK), Inv X pins σ H s → RelV x v → RelV y u → r x y H Q →
    wpAny (model X.prog X.w) X.A (f v u) (EP X pins σ Q) X.xe s
/-- a one-place operation -/
noncomputable def UnR (X : Cx) (f : Value → Sem Value) (r : V → Hp → VK → Prop) : Prop :=
  ∀ (pins : List (Addr × Obj)) (s : Shared) (σ : St) (H : Hp) (x : V) (v : Value) (Q : VK), Inv X pins σ H s → RelV x v → r x H Q →
    wpAny (model X.prog X.w) X.A (f v) (EP X pins σ Q) X.xe s
/-- a call of a value that is known (a builtin, a type) with values -/
noncomputable def CallR (X : Cx) (f : Value) (r : List V → Hp → VK → Prop) : Prop :=
  ∀ (pins : List (Addr × Obj)) (s : Shared) (σ : St) (H : Hp) (xs : List V) (us : List Value) (Q : VK), Inv X pins σ H s → Vals xs us → r xs H Q →
    wpAny (model X.prog X.w) X.A (call f us) (EP X pins σ Q) X.xe s
noncomputable def tOp (r : R2) (ta tb : TE) : TE := fun σ H Q => ta σ H fun x H1 => tb σ H1 fun y H2 => r x y H2 Q
noncomputable def tUn (r : V → Hp → VK → Prop) (ta : TE) : TE := fun σ H Q => ta σ H fun x H1 => r x H1 Q
/-- ints in, under C, and a value out -/
noncomputable def rI (C : Int → Int → Prop) (g : Int → Int → V) : R2 := fun x y H Q => ∃ i j, x = .int i ∧ y = .int j ∧ C i j ∧ Q (g i j) H
noncomputable def rI0 (g : Int → Int → V) : R2 := fun x y H Q => ∃ i j, x = .int i ∧ y = .int j ∧ Q (g i j) H
noncomputable def rU (g : Int → V) : V → Hp → VK → Prop := fun x H Q => ∃ i, x = .int i ∧ Q (g i) H

section
variable {X : Cx} {a b c : Expr} {ta tb tc : TE} {pos : Pos}

theorem binT (ha : PE X a ta) (hb : PE X b tb) {pins : List (Addr × Obj)} {s : Shared} {σ : St} {H : Hp} {R : V → V → Hp → Prop} (I : Inv X pins σ H s)
    (h : ta σ H fun x H1 => tb σ H1 fun y H2 => R x y H2) {Q : Value → Shared → Prop} {f : Value → Value → Sem Value}
    (hf : ∀ v u s2 x y H2, Inv X pins σ H2 s2 → RelV x v → RelV y u → R x y H2 → wpAny (model X.prog X.w) X.A (f v u) Q X.xe s2) :
    wpAny (model X.prog X.w) X.A (eval a X.env) (fun v s₁ => wpAny (model X.prog X.w) X.A (eval b X.env) (fun u s₂ => wpAny (model X.prog X.w) X.A (f v u) Q X.xe s₂) X.xe s₁) X.xe s := by
  refine thn (ha pins s σ H _ I h) fun v s1 ⟨x, H1, I1, r1, q1⟩ => ?_
  refine thn (hb pins s1 σ H1 _ I1 q1) fun u s2 ⟨y, H2, I2, r2, q2⟩ => ?_
  exact hf v u s2 x y H2 I2 r1 r2 q2

theorem pe_op {op : Operator} {r : R2} (ho : OpR X (binaryOp op) r) (ha : PE X a ta) (hb : PE X b tb) : PE X (.BinOp a op b pos) (tOp r ta tb) := by
  intro pins s σ H Q I h
  exact wpAny_BinOp (binT ha hb I h fun v u s2 x y H2 I2 rx ry q => ho pins s2 σ H2 x y v u Q I2 rx ry q)
theorem pe_un {op : UnaryOp} {r : V → Hp → VK → Prop} (ho : UnR X (unaryOp op) r) (ha : PE X a ta) : PE X (.UnaryOp op a pos) (tUn r ta) := by
  intro pins s σ H Q I h
  exact UnaryOp_ (thn (ha pins s σ H _ I h) fun v s1 ⟨x, H1, I1, r1, q1⟩ => ho pins s1 σ H1 x v Q I1 r1 q1)
/-! ### ints -/
theorem opI {f : Value → Value → Sem Value} {C : Int → Int → Prop} {g : Int → Int → Int}
    (rule : ∀ (i j : Int) (t u : Tok) (s : Shared) (Q : Value → Shared → Prop) (E : Value → Shared → Prop), C i j → Q (.int (g i j) s.toks) { s with toks := s.toks + 1 } → wpAny (model X.prog X.w) X.A (f (.int i t) (.int j u)) Q E s) :
    OpR X f (rI C fun i j => .int (g i j)) := by
  intro pins s σ H x y v u Q I rx ry h
  obtain ⟨i, j, rfl, rfl, hc, q⟩ := h
  obtain ⟨t, rfl⟩ := rx
  obtain ⟨t', rfl⟩ := ry
  exact rule i j t t' s _ _ hc ⟨.int (g i j), H, I.tok _, ⟨_, rfl⟩, q⟩
theorem opI0 {f : Value → Value → Sem Value} {g : Int → Int → Int}
    (rule : ∀ (i j : Int) (t u : Tok) (s : Shared) (Q : Value → Shared → Prop) (E : Value → Shared → Prop), Q (.int (g i j) s.toks) { s with toks := s.toks + 1 } → wpAny (model X.prog X.w) X.A (f (.int i t) (.int j u)) Q E s) :
    OpR X f (rI0 fun i j => .int (g i j)) := by
  intro pins s σ H x y v u Q I rx ry h
  obtain ⟨i, j, rfl, rfl, q⟩ := h
  obtain ⟨t, rfl⟩ := rx
  obtain ⟨t', rfl⟩ := ry
  exact rule i j t t' s _ _ ⟨.int (g i j), H, I.tok _, ⟨_, rfl⟩, q⟩
theorem opB0 {f : Value → Value → Sem Value} {g : Int → Int → Bool}
    (rule : ∀ (i j : Int) (t u : Tok) (s : Shared) (Q : Value → Shared → Prop) (E : Value → Shared → Prop), Q (.bool (g i j)) s → wpAny (model X.prog X.w) X.A (f (.int i t) (.int j u)) Q E s) :
    OpR X f (rI0 fun i j => .bl (g i j)) := by
  intro pins s σ H x y v u Q I rx ry h
  obtain ⟨i, j, rfl, rfl, q⟩ := h
  obtain ⟨t, rfl⟩ := rx
  obtain ⟨t', rfl⟩ := ry
  exact rule i j t t' s _ _ ⟨.bl (g i j), H, I, rfl, q⟩

noncomputable def CDiv (i j : Int) : Prop := 0 < j ∧ j < 1073741824
noncomputable def CPow (i j : Int) : Prop := 0 ≤ j ∧ j ≤ 1000000 ∧ i.natAbs < 2 ^ 64
noncomputable def CMul (i j : Int) : Prop := (-(2 ^ 64) < i ∧ i < 2 ^ 64) ∨ (-(2 ^ 64) < j ∧ j < 2 ^ 64)
theorem CMul.ok {i j : Int} (h : CMul i j) : IntMulOk i j := by
  rcases h with ⟨h1, h2⟩ | ⟨h1, h2⟩
  · exact .of_left (intBits_le_64 h1 h2)
  · exact .of_right (intBits_le_64 h1 h2)
theorem two_pow_nn (k : Nat) : (0 : Int) ≤ 2 ^ k := by
  rw [two_pow_cast]
  exact Int.natCast_nonneg _

theorem op_add : OpR X (binaryOp .Add) (rI0 fun i j => .int (i + j)) := opI0 fun _ _ _ _ _ _ _ q => add_int q
theorem op_sub : OpR X (binaryOp .Sub) (rI0 fun i j => .int (i - j)) := opI0 fun _ _ _ _ _ _ _ q => sub_int q
theorem op_mul : OpR X (binaryOp .Mult) (rI CMul fun i j => .int (i * j)) := opI fun _ _ _ _ _ _ _ hc q => mul_int q hc.ok
/-- // by a positive divisor -/
theorem op_fdiv : OpR X (binaryOp .FloorDiv) (rI CDiv fun i j => .int (i / j)) := opI fun i j _ _ _ _ _ hc q => by
  have h1 : (0 : Int) < j := hc.1
  have h2 : j < 1073741824 := hc.2
  exact floordiv_int (by omega) (by rw [Int.fdiv_eq_ediv_of_nonneg i (by omega)]; exact q) (.inl (PyProof.noPylong_small (by omega)))
/-- % by a positive divisor of any size -/
theorem op_mod : OpR X (binaryOp .Mod) (rI (fun _ j => 0 < j) fun i j => .int (i % j)) := opI fun i j _ _ _ _ _ hc q => by
  have h1 : (0 : Int) < j := hc
  exact mod_int' (by omega) (by rw [Int.fmod_eq_emod_of_nonneg i (by omega)]; exact q)
theorem op_shl : OpR X (binaryOp .LShift) (rI CPow fun i j => .int (i * 2 ^ j.toNat)) := opI fun _ _ _ _ _ _ _ hc q => lshift_int_small hc.1 hc.2.1 hc.2.2 q
theorem op_shr : OpR X (binaryOp .RShift) (rI (fun _ j => 0 ≤ j) fun i j => .int (i / 2 ^ j.toNat)) := opI fun i j _ _ _ _ _ hc q =>
  rshift_int hc (by rw [Int.fdiv_eq_ediv_of_nonneg i (two_pow_nn _)]; exact q)
theorem op_and : OpR X (binaryOp .BitAnd) (rI0 fun i j => .int (Builtin.bitAnd i j)) := opI0 fun _ _ _ _ _ _ _ q => and_int q
theorem op_or : OpR X (binaryOp .BitOr) (rI0 fun i j => .int (Builtin.bitOr i j)) := opI0 fun _ _ _ _ _ _ _ q => or_int q
theorem unI {f : Value → Sem Value} {g : Int → Int}
    (rule : ∀ (i : Int) (t : Tok) (s : Shared) (Q : Value → Shared → Prop) (E : Value → Shared → Prop), Q (.int (g i) s.toks) { s with toks := s.toks + 1 } → wpAny (model X.prog X.w) X.A (f (.int i t)) Q E s) :
    UnR X f (rU fun i => .int (g i)) := by
  intro pins s σ H x v Q I rx h
  obtain ⟨i, rfl, q⟩ := h
  obtain ⟨t, rfl⟩ := rx
  exact rule i t s _ _ ⟨.int (g i), H, I.tok _, ⟨_, rfl⟩, q⟩
theorem un_inv : UnR X (unaryOp .Invert) (rU fun i => .int (Builtin.bitNot i)) := unI fun _ _ _ _ _ q => invert_int q

/-! ### bools among ints: n += (a < b) -/
end

/-! ### comparisons -/
/-- the scalars that == tells apart as data does -/
noncomputable def scal : V → V → Bool
  | .non, .non => true | .non, .int _ => true | .int _, .non => true | .non, .bl _ => true | .bl _, .non => true | .non, .str _ => true | .str _, .non => true
  | .int _, .int _ => true | .bl _, .bl _ => true | .str _, .str _ => true | .byt _, .byt _ => true
  | .int _, .str _ => true | .str _, .int _ => true | .bl _, .str _ => true | .str _, .bl _ => true
  | _, _ => false
noncomputable def rEq : R2 := fun x y H Q => scal x y = true ∧ Q (.bl (decide (x = y))) H
noncomputable def rNe : R2 := fun x y H Q => scal x y = true ∧ Q (.bl (!decide (x = y))) H

theorem dec_int {i j : Int} : decide (V.int i = V.int j) = (i == j) := by
  rw [Bool.eq_iff_iff]
  simp
theorem dec_bl {i j : Bool} : decide (V.bl i = V.bl j) = (i == j) := by
  rw [Bool.eq_iff_iff]
  simp
theorem dec_str {i j : Str} : decide (V.str i = V.str j) = (i == j) := by
  rw [Bool.eq_iff_iff]
  simp
theorem dec_byt {i j : Array UInt8} : decide (V.byt i = V.byt j) = (i.toList == j.toList) := by
  rw [Bool.eq_iff_iff]
  cases i
  cases j
  simp

section
variable {X : Cx} {a b c : Expr} {ta tb tc : TE} {pos : Pos}
theorem fin_bl {pins : List (Addr × Obj)} {σ : St} {H : Hp} {s : Shared} {Q : VK} {k k' : Bool} (I : Inv X pins σ H s) (q : Q (.bl k) H) (e : k = k') : EP X pins σ Q (.bool k') s := by
  subst e
  exact ⟨.bl k, H, I, rfl, q⟩
theorem op_eq : OpR X (compareOp .Eq) rEq := by
  intro pins s σ H x y v u Q I rx ry h
  obtain ⟨hs, q⟩ := h
  cases x with
  | non =>
    cases rx
    cases y with
    | non => cases ry; exact PySem.EqNone.eq_none_none (fin_bl I q (by simp))
    | bl j => cases ry; exact PySem.EqNone.eq_none_bool (fin_bl I q (by simp))
    | int j => obtain ⟨t', rfl⟩ := ry; exact PySem.EqNone.eq_none_int (fin_bl I q (by simp))
    | str j => obtain ⟨t', rfl⟩ := ry; exact PySem.EqNone.eq_none_str (fin_bl I q (by simp))
    | _ => exact absurd (show false = true from hs) Bool.false_ne_true
  | bl i =>
    cases rx
    cases y with
    | non => cases ry; exact PySem.EqNone.eq_bool_none (fin_bl I q (by simp))
    | bl j => cases ry; exact eq_bool (fin_bl I q dec_bl)
    | str j => obtain ⟨t', rfl⟩ := ry; exact PySem.EqMixed.eq_bool_str (fin_bl I q (by simp))
    | _ => exact absurd (show false = true from hs) Bool.false_ne_true
  | int i =>
    obtain ⟨t, rfl⟩ := rx
    cases y with
    | non => cases ry; exact PySem.EqNone.eq_int_none (fin_bl I q (by simp))
    | int j => obtain ⟨t', rfl⟩ := ry; exact eq_int (fin_bl I q dec_int)
    | str j => obtain ⟨t', rfl⟩ := ry; exact PySem.EqMixed.eq_int_str (fin_bl I q (by simp))
    | _ => exact absurd (show false = true from hs) Bool.false_ne_true
  | str i =>
    obtain ⟨t, rfl⟩ := rx
    cases y with
    | non => cases ry; exact PySem.EqNone.eq_str_none (fin_bl I q (by simp))
    | bl j => cases ry; exact PySem.EqMixed.eq_str_bool (fin_bl I q (by simp))
    | int j => obtain ⟨t', rfl⟩ := ry; exact PySem.EqMixed.eq_str_int (fin_bl I q (by simp))
    | str j => obtain ⟨t', rfl⟩ := ry; exact eq_str (fin_bl I q dec_str)
    | _ => exact absurd (show false = true from hs) Bool.false_ne_true
  | byt i =>
    obtain ⟨t, rfl⟩ := rx
    cases y with
    | byt j => obtain ⟨t', rfl⟩ := ry; exact PySem.W.eq_bytes (fin_bl I q dec_byt)
    | _ => exact absurd (show false = true from hs) Bool.false_ne_true
  | _ => cases y <;> exact absurd (show false = true from hs) Bool.false_ne_true
theorem op_ne : OpR X (compareOp .NotEq) rNe := by
  intro pins s σ H x y v u Q I rx ry h
  obtain ⟨hs, q⟩ := h
  cases x with
  | non =>
    cases rx
    cases y with
    | non => cases ry; exact PySem.EqNone.ne_none_none (fin_bl I q (by simp))
    | bl j => cases ry; exact PySem.EqNone.ne_none_bool (fin_bl I q (by simp))
    | int j => obtain ⟨t', rfl⟩ := ry; exact PySem.EqNone.ne_none_int (fin_bl I q (by simp))
    | str j => obtain ⟨t', rfl⟩ := ry; exact PySem.EqNone.ne_none_str (fin_bl I q (by simp))
    | _ => exact absurd (show false = true from hs) Bool.false_ne_true
  | bl i =>
    cases rx
    cases y with
    | non => cases ry; exact PySem.EqNone.ne_bool_none (fin_bl I q (by simp))
    | bl j => cases ry; exact ne_bool (fin_bl I q (congrArg not dec_bl))
    | str j => obtain ⟨t', rfl⟩ := ry; exact PySem.EqMixed.ne_bool_str (fin_bl I q (by simp))
    | _ => exact absurd (show false = true from hs) Bool.false_ne_true
  | int i =>
    obtain ⟨t, rfl⟩ := rx
    cases y with
    | non => cases ry; exact PySem.EqNone.ne_int_none (fin_bl I q (by simp))
    | int j => obtain ⟨t', rfl⟩ := ry; exact ne_int (fin_bl I q (congrArg not dec_int))
    | str j => obtain ⟨t', rfl⟩ := ry; exact PySem.EqMixed.ne_int_str (fin_bl I q (by simp))
    | _ => exact absurd (show false = true from hs) Bool.false_ne_true
  | str i =>
    obtain ⟨t, rfl⟩ := rx
    cases y with
    | non => cases ry; exact PySem.EqNone.ne_str_none (fin_bl I q (by simp))
    | bl j => cases ry; exact PySem.EqMixed.ne_str_bool (fin_bl I q (by simp))
    | int j => obtain ⟨t', rfl⟩ := ry; exact PySem.EqMixed.ne_str_int (fin_bl I q (by simp))
    | str j => obtain ⟨t', rfl⟩ := ry; exact ne_str (fin_bl I q (congrArg not dec_str))
    | _ => exact absurd (show false = true from hs) Bool.false_ne_true
  | byt i =>
    obtain ⟨t, rfl⟩ := rx
    cases y with
    | byt j => obtain ⟨t', rfl⟩ := ry; exact PySem.W.ne_bytes (fin_bl I q (congrArg not dec_byt))
    | _ => exact absurd (show false = true from hs) Bool.false_ne_true
  | _ => cases y <;> exact absurd (show false = true from hs) Bool.false_ne_true

theorem op_lt : OpR X (compareOp .Lt) (rI0 fun i j => .bl (decide (i < j))) := opB0 fun _ _ _ _ _ _ _ q => lt_int q
theorem op_gt : OpR X (compareOp .Gt) (rI0 fun i j => .bl (decide (j < i))) := opB0 fun _ _ _ _ _ _ _ q => gt_int q
/-- is None, is not None: the right side a value none -/
theorem op_isN : OpR X (compareOp .Is) (fun x y H Q => y = .non ∧ Q (.bl (decide (x = .non))) H) := by
  intro pins s σ H x y v u Q I rx ry h
  obtain ⟨rfl, q⟩ := h
  cases ry
  refine is_none_gen (fin_bl I q ?_)
  cases x <;> first
    | (cases rx; rfl)
    | (obtain ⟨t, rfl⟩ := rx; rfl)
theorem op_notN : OpR X (compareOp .IsNot) (fun x y H Q => y = .non ∧ Q (.bl (!decide (x = .non))) H) := by
  intro pins s σ H x y v u Q I rx ry h
  obtain ⟨rfl, q⟩ := h
  cases ry
  refine isnot_none_gen (fin_bl I q ?_)
  cases x <;> first
    | (cases rx; rfl)
    | (obtain ⟨t, rfl⟩ := rx; rfl)

theorem nomark (b : Expr) {op : CmpOp} (h : op ≠ .In := by decide) (h2 : op ≠ .NotIn := by decide) : behindInMarks op b = false := by
  have e1 : (op == CmpOp.In) = false := by cases op <;> first | rfl | exact absurd rfl h
  have e2 : (op == CmpOp.NotIn) = false := by cases op <;> first | rfl | exact absurd rfl h2
  cases b <;> simp [behindInMarks, e1, e2]
/-- a comparison as a value; hm: nomark b, or (for in, not in) by with_unfolding_all rfl -/
theorem pe_cmpR {op : CmpOp} {r : R2} (ho : OpR X (compareOp op) r) (ha : PE X a ta) (hb : PE X b tb) (hm : behindInMarks op b = false) : PE X (.Compare a [op] [b] pos) (tOp r ta tb) := by
  intro pins s σ H Q I h
  exact wpAny_Compare1 (binT ha hb I h fun v u s2 x y H2 I2 rx ry q => ho pins s2 σ H2 x y v u Q I2 rx ry q) hm
/-- a reading of a value as a test -/
noncomputable def tTest (t : TE) : TT := fun σ H Q => t σ H fun x H' => ∃ k, x = .bl k ∧ Q k H'
theorem pt_cmpR {op : CmpOp} {r : R2} (ho : OpR X (compareOp op) r) (ha : PE X a ta) (hb : PE X b tb) (hm : behindInMarks op b = false) : PT X (.Compare a [op] [b] pos) (tTest (tOp r ta tb)) := by
  intro pins s σ H Q I h
  refine wpAny_isTrue_Compare1 (thn (ha pins s σ H _ I h) fun v s1 ⟨x, H1, I1, r1, q1⟩ => thn (hb pins s1 σ H1 _ I1 q1) fun u s2 ⟨y, H2, I2, r2, q2⟩ =>
    thn (ho pins s2 σ H2 x y v u _ I2 r1 r2 q2) fun c s3 ⟨z, H3, I3, r3, k, e, q3⟩ => ?_) hm
  subst e
  cases r3
  exact wpAny_truthy_bool ⟨H3, I3, q3⟩
/-! ### truth -/
theorem line63 : (sizeLine : Nat) < 2 ^ 63 := by rw [sizeLine_eq]; decide
/-! ### strs and bytes -/
/-! ### scalar builtins, by CallR -/
theorem vals1 {x : V} {us : List Value} (r : Vals [x] us) : ∃ u, us = [u] ∧ RelV x u := by
  cases r with
  | cons r1 r2 => cases r2; exact ⟨_, rfl, r1⟩
theorem vals2 {x y : V} {us : List Value} (r : Vals [x, y] us) : ∃ u w', us = [u, w'] ∧ RelV x u ∧ RelV y w' := by
  cases r with
  | cons r1 r2 =>
    cases r2 with
    | cons r3 r4 => cases r4; exact ⟨_, _, rfl, r1, r3⟩
theorem call_int1 : CallR X (.type "int") (fun xs H Q => (∃ i, xs = [.int i] ∧ Q (.int i) H) ∨ ∃ k, xs = [.bl k] ∧ Q (.int (if k then 1 else 0)) H) := by
  intro pins s σ H xs us Q I r h
  rcases h with ⟨i, rfl, q⟩ | ⟨k, rfl, q⟩
  · obtain ⟨u, rfl, t, rfl⟩ := vals1 r
    exact call_int_int ⟨.int i, H, I, ⟨_, rfl⟩, q⟩
  · obtain ⟨u, rfl, r1⟩ := vals1 r
    cases r1
    exact call_int_bool ⟨.int (if k then 1 else 0), H, I.tok _, ⟨_, rfl⟩, q⟩
end
end L2

namespace L2
open PySem PySem.Spec PyProof.Rows

/-! ### an instance, its attributes a map -/
structure ObjM (h : Heap) (x dx C : Addr) (mA : Str → Option Value) : Prop where
  obj : h.get? x = some (PySem.W.instObj C dx)
  ns : h.Ns1 dx mA
  ne : dx ≠ x

theorem lookIn_ns {h : Heap} {dx : Addr} {mA : Str → Option Value} (n : h.Ns1 dx mA) : ∃ od, h.get? dx = some od ∧ ∀ name, PySem.W.lookIn name od = some (mA name) := by
  obtain ⟨o, es, ep, ho, hd, hk, _, hm⟩ := n
  refine ⟨o, ho, fun name => ?_⟩
  have e := hm name
  unfold nsFind findBy at e
  rw [← Array.find?_toList] at e
  unfold PySem.W.lookIn
  rw [hd]
  dsimp only
  split
  · rename_i y q
    rw [q] at e
    exact congrArg some e
  · rename_i q
    rw [q] at e
    have a : es.toList.any (·.refKey) = false := by
      rw [List.any_eq_false]
      intro y hy
      obtain ⟨z, t, hkey⟩ := hk y (Array.mem_toList_iff.mp hy)
      simp [DictEntry.refKey, hkey]
    have a' : ¬ es.toList.any (·.refKey) = true := by rw [a]; exact Bool.false_ne_true
    rw [if_neg a']
    exact congrArg some e

theorem ObjM.look {h : Heap} {x dx C : Addr} {mA : Str → Option Value} (I : ObjM h x dx C mA) : ∃ od, PySem.W.InstAt h x (PySem.W.instObj C dx) C (some od) ∧ ∀ name, PySem.W.lookIn name od = some (mA name) :=
  let ⟨od, ho, hl⟩ := lookIn_ns I.ns
  ⟨od, ⟨I.obj, rfl, rfl, ho⟩, hl⟩

section
variable {prog : Program} {w : World} {A : Around} {E : Value → Shared → Prop} {s : Shared} {K : PySem.W.Frag} {x dx C f : Addr} {mA : Str → Option Value} {name : Str} {v : Value}

end

/-! ### the attributes as a list of pairs -/
section
variable {P : Program} {w : World} {H H' : Hp} {h h' : Heap} {a C dx : Addr} {fs fs' : List (Str × V)}
theorem ins_get (hok : HOk P w H h) (e : H a = some (.ins C dx fs)) : ∃ mA, ObjM h a dx C mA ∧ (∀ f, RelO (fs.lookup f) (mA f)) ∧ PySem.Within mA (fs.map (·.1)) ∧ fs.length ≤ 1000 ∧ H dx = some (.own a) := by
  obtain ⟨d, z, ne, ob, mA, n, r, q⟩ := (show ObjOk P w H h a (.ins C dx fs) from hok a _ e)
  exact ⟨mA, ⟨ob, n, ne⟩, r, q, z, d⟩
end

/-! ### what of the text a class must have -/
structure Cls (K : PySem.W.Frag) (C : Addr) : Prop where
  pg : PySem.W.plainGet K C Str.empty = true
  hd : PySem.W.hasDictIn K C = true
  po : PySem.W.plainOver K C = true
  sa : PySem.W.findIn K (.ref C) "__setattr__" = some (some (.builtin "object.__setattr__"))
theorem Cls.get {K : PySem.W.Frag} {C : Addr} (c : Cls K C) (f : Str) : PySem.W.plainGet K C f = true := c.pg
section
variable {X : Cx} {pins : List (Addr × Obj)} {σ : St} {H : Hp} {s : Shared} {a C dx : Addr} {fs : List (Str × V)} {f : Str} {v : V} {A : Around} {E : Value → Shared → Prop}

end

/-! ### readings and rules -/
section
variable {X : Cx} {o e value : Expr} {f : Str} {pos pos' tpos : Pos} {ta tv : TE}
end

/-! ### isinstance -/
section
variable {X : Cx} {pins : List (Addr × Obj)} {σ : St} {H : Hp} {s : Shared} {A : Around} {E : Value → Shared → Prop} {Q : Value → Shared → Prop} {c : Value} {b : Bool}
/-- the type of a value, as the fragment's deciders take it; for an instance its class -/
inductive TyOf (K : PySem.W.Frag) (H : Hp) : V → Value → Prop where
  | non : TyOf K H .non (.type "NoneType")
  | bl (x : Bool) : TyOf K H (.bl x) (.type "bool")
  | int (i : Int) : TyOf K H (.int i) (.type "int")
  | str (x : Str) : TyOf K H (.str x) (.type "str")
  | flt (x : UInt64) : TyOf K H (.flt x) (.type "float")
  | lst {a : Addr} {xs : List V} (e : H a = some (.lst xs)) : TyOf K H (.ref a) (.type "list")
  | frz {a : Addr} {o : Obj} {xs : List V} (e : H a = some (.frz o (.lst xs))) : TyOf K H (.ref a) (.type "list")
  | tup {a : Addr} {xs : List V} (e : H a = some (.tup xs)) : TyOf K H (.ref a) (.type "tuple")
  | dK {a : Addr} {kvs : List (Key × V)} (e : H a = some (.dK kvs)) : TyOf K H (.ref a) (.type "dict")
  | dT {a : Addr} {kvs : List (List Key × V)} (e : H a = some (.dT kvs)) : TyOf K H (.ref a) (.type "dict")
  | ins {a C dx : Addr} {fs : List (Str × V)} (e : H a = some (.ins C dx fs)) (cl : Cls K C) (ha : PySem.W.findIn K (.ref C) "__class__" = some (some (.builtin "object.__class__")))
      (hn : PySem.W.specialIn K (.builtin "object.__class__") "__get__" = some (some (.builtin "getset_descriptor.__get__"))) (htk : PySem.W.takesIn K (.builtin "object.__class__") = some true)
      (hm : PySem.W.mroIn K C (.type "object") = some true) : TyOf K H (.ref a) (.ref C)
/-- isinstance(x, c) for one class c, a built-in or an own one: kitOne's answer -/
theorem isinst_ok {x : V} {u t : Value} (I : Inv X pins σ H s) (rx : RelV x u) (ty : TyOf X.K H x t) (e : PySem.W.kitOne X.K t c = some b) (h : ∀ tk, Q (.bool b) { s with toks := tk }) :
    wpAny (model X.prog X.w) A (call (.builtin "isinstance") [u, c]) Q E s := by
  cases ty with
  | non => cases (show u = Value.none from rx); exact PySem.W.kia_one PySem.W.kitx_none I.kIn True.intro e (fun z => nomatch z) h
  | bl y => cases (show u = Value.bool y from rx); exact PySem.W.kia_one PySem.W.kitx_bool I.kIn True.intro e (fun z => nomatch z) h
  | int i => obtain ⟨t, q⟩ := (show ∃ t, u = Value.int i t from rx); cases q; exact PySem.W.kia_one PySem.W.kitx_int I.kIn True.intro e (fun z => nomatch z) h
  | str y => obtain ⟨t, q⟩ := (show ∃ t, u = Value.str y t from rx); cases q; exact PySem.W.kia_one PySem.W.kitx_str I.kIn True.intro e (fun z => nomatch z) h
  | flt y => obtain ⟨t, q⟩ := (show ∃ t, u = Value.float y t from rx); cases q; exact PySem.W.kia_one PySem.W.kitx_float I.kIn True.intro e (fun z => nomatch z) h
  | @lst a xs ea =>
    cases (show u = Value.ref a from rx)
    obtain ⟨_, _, n, _, h1⟩ := (show ObjOk X.prog X.w H s.heap a (.lst xs) from I.hok a _ ea)
    exact PySem.W.kia_one PySem.W.kitx_list I.kIn ⟨_, h1, rfl⟩ e (fun z => nomatch z) h
  | @frz a ob xs ea =>
    cases (show u = Value.ref a from rx)
    obtain ⟨_, _, _, n, _, h1⟩ := (show ObjOk X.prog X.w H s.heap a (.frz ob (.lst xs)) from I.hok a _ ea)
    exact PySem.W.kia_one PySem.W.kitx_list I.kIn ⟨_, h1, rfl⟩ e (fun z => nomatch z) h
  | @tup a xs ea =>
    cases (show u = Value.ref a from rx)
    obtain ⟨_, _, _, p⟩ := (show ObjOk X.prog X.w H s.heap a (.tup xs) from I.hok a _ ea)
    obtain ⟨o, h1, h2, _⟩ := p
    exact PySem.W.kia_one PySem.W.kitx_tuple I.kIn ⟨o, h1, h2⟩ e (fun z => nomatch z) h
  | @dK a kvs ea =>
    cases (show u = Value.ref a from rx)
    obtain ⟨_, _, vs, _, p⟩ := (show ObjOk X.prog X.w H s.heap a (.dK kvs) from I.hok a _ ea)
    obtain ⟨o, es, ep, h1, h2, _⟩ := p
    exact PySem.W.kia_one PySem.W.kitx_dict I.kIn ⟨o, h1, h2.1⟩ e (fun z => nomatch z) h
  | @dT a kvs ea =>
    cases (show u = Value.ref a from rx)
    obtain ⟨_, _, xs, _, o, es, ep, h1, h2, _⟩ := (show ObjOk X.prog X.w H s.heap a (.dT kvs) from I.hok a _ ea)
    exact PySem.W.kia_one PySem.W.kitx_dict I.kIn ⟨o, h1, h2.1⟩ e (fun z => nomatch z) h
  | @ins a C dx fs ea cl ha hn htk hm =>
    cases (show u = Value.ref a from rx)
    obtain ⟨mA, O, _⟩ := ins_get I.hok ea
    obtain ⟨od, J, _⟩ := O.look
    exact PySem.W.kia_one (PySem.W.kitx_own (cl.get _) cl.hd ha hn htk hm) I.kIn J e (fun z => nomatch z) h
end
end L2

namespace L2
open PySem PySem.Spec PyProof.Rows

/-! ### room -/
structure Room (k : Nat) (A : Around) : Prop where
  hd : A.handled = none
  dp : A.depth + 3 * k + 5 < recursionLimit
  un : A.units + 16 * k + 200 < cLine
theorem Room.mono {j k : Nat} {A : Around} (r : Room k A) (h : j ≤ k) : Room j A := ⟨r.hd, by have := r.dp; omega, by have := r.un; omega⟩
theorem Room.deeper {k : Nat} {A : Around} (r : Room (k + 1) A) (env : Env) : Room k (A.deeper env) :=
  ⟨r.hd, by have := r.dp; show A.depth + 1 + 3 * k + 5 < _; omega, by have := r.un; show A.units + 3 + 16 * k + 200 < _; omega⟩
theorem Room.in1 {k : Nat} {A : Around} (r : Room (k + 1) A) : Room k A.in1 :=
  ⟨r.hd, by have := r.dp; show A.depth + 3 * k + 5 < _; omega, by have := r.un; show A.units + 1 + 16 * k + 200 < _; omega⟩
theorem Room.depth {k : Nat} {A : Around} (r : Room k A) : A.depth < recursionLimit := by have := r.dp; omega
theorem Room.units {k : Nat} {A : Around} (r : Room k A) : A.units + 64 < cLine := by have := r.un; omega
/-! ### argument lists and displays -/
noncomputable def tNil : TA := fun _ H Q => Q [] H
noncomputable def tCons (ta : TE) (tr : TA) : TA := fun σ H Q => ta σ H fun x H1 => tr σ H1 fun xs H2 => Q (x :: xs) H2
section
variable {X : Cx} {e : Expr} {es : List Expr} {te : TE} {t : TA} {pos : Pos}
theorem pa_nil : PA X [] tNil := fun _ _ _ _ H Q I h => Calls.spliced_nil ⟨[], H, I, .nil, h⟩
theorem pa_cons (ha : PE X e te) (hr : PA X es t) (hs : starEach (e :: es) X.env = (false, eval e X.env) :: starEach es X.env := by rfl) : PA X (e :: es) (tCons te t) := by
  intro pos pins s σ H Q I h
  rw [hs]
  show wpAny _ _ (spliced ((false, eval e X.env) :: backTo pos (starEach es X.env))) _ _ s
  refine Calls.spliced_cons (thn (ha pins s σ H _ I h) fun u s1 ⟨x, H1, I1, r1, q1⟩ => ?_)
  exact thn (hr pos pins s1 σ H1 _ I1 q1) fun us s2 ⟨xs, H2, I2, r2, q2⟩ => ⟨x :: xs, H2, I2, .cons r1 r2, q2⟩

/-- a tuple, a list of written items -/
noncomputable def tTup (t : TA) : TE := fun σ H Q => t σ H fun xs H1 => xs.length ≤ sizeLine ∧ ∀ p, H1 p = none → Q (.ref p) (upd H1 p (.tup xs))
noncomputable def tLst (t : TA) : TE := fun σ H Q => t σ H fun xs H1 => xs.length ≤ sizeLine ∧ ∀ p, H1 p = none → Q (.ref p) (upd H1 p (.lst xs))
theorem pe_tup {x1} (h : PA X es t) : PE X (.Tuple es x1 pos) (tTup t) := by
  intro pins s σ H Q I hq
  refine wpAny_Tuple_spliced (thn (h pos pins s σ H _ I hq) fun us s1 ⟨xs, H1, I1, r, z, q⟩ => ⟨by rw [← r.length]; exact z, ?_⟩)
  have hf : H1 s1.heap.objs.size = none := I1.hok.fresh (Nat.le_refl _)
  refine ⟨.ref s1.heap.objs.size, upd H1 s1.heap.objs.size (.tup xs), I1.laid (t' := s1.toks) (fun b u e => Heap.get?_push_of_some _ e) (Nat.le_refl _) ?_, rfl, q _ hf⟩
  exact ⟨z, us, r, ⟨_, Heap.get?_push_size _ rfl, rfl, _, rfl⟩⟩
theorem pe_lst (h : PA X es t) : PE X (.List es pos) (tLst t) := by
  intro pins s σ H Q I hq
  refine wpAny_List_spliced (thn (h pos pins s σ H _ I hq) fun us s1 ⟨xs, H1, I1, r, z, q⟩ => ⟨by rw [← r.length]; exact z, ?_⟩)
  have hf : H1 s1.heap.objs.size = none := I1.hok.fresh (Nat.le_refl _)
  refine ⟨.ref s1.heap.objs.size, upd H1 s1.heap.objs.size (.lst xs), I1.laid (t' := s1.toks) (fun b u e => Heap.get?_push_of_some _ e) (Nat.le_refl _) ?_, rfl, q _ hf⟩
  exact ⟨z, us, 0, r, Heap.get?_push_size _ rfl⟩
end

/-! ### what a def promises -/
/-- a def's promise: the bound arguments in the parameters' order, the heap, the wanted end, the wanted exception -/
noncomputable abbrev Sp := List V → Hp → VK → XK → Prop
/-- how an exception lies behind a call (file 08 gives it): the callers' frames, abstract heap and state ahead of the call, the wish, the exception, the state -/
noncomputable abbrev CXT := List Env → Hp → Shared → XK → Value → Shared → Prop

/-- the state at a call -/
structure Env0 (P : Program) (w : World) (K : PySem.W.Frag) (mg : Str → Option Value) (base : Heap) (A : Around) (outer : List Env) (s : Shared) (H : Hp) : Prop where
  frames : A.frames = some outer
  mod : Mod K mg base
  bs : ∀ b o, base.get? b = some o → s.heap.get? b = some o ∧ H b = none
  bsz : base.objs.size ≤ s.heap.objs.size
  funs : s.heap.FunFrames base outer
  frf : ∀ b ∈ frs outer, H b = none
  hok : HOk P w H s.heap
  bare : AllBare s.gens
/-- a call's end -/
noncomputable def CE (outer : List Env) (P : Program) (w : World) (H : Hp) (s : Shared) (Q : VK) (u : Value) (s' : Shared) : Prop :=
  ∃ v H', s'.os = s.os ∧ AllBare s'.gens ∧ Un (frs outer) [] H H' s.heap s'.heap ∧ HOk P w H' s'.heap ∧ RelV v u ∧ Q v H'
noncomputable def CR (CX : CXT) (outer : List Env) (P : Program) (w : World) (H : Hp) (s : Shared) (Q : VK) (E : XK) (r : Result) (s' : Shared) : Prop :=
  match r with
  | .ok (.ret u) => CE outer P w H s Q u s'
  | .ok _ => False
  | .error e => CX outer H s E e s'
structure FnOk (P : Program) (w : World) (K : PySem.W.Frag) (mg : Str → Option Value) (base : Heap) (CX : CXT) (k : Nat) (f : Addr) (fd : FuncData) (ps : List Str) (sp : Sp) : Prop where
  len : ∀ vs H Q E, sp vs H Q E → vs.length = ps.length
  run : ∀ (A : Around) (outer : List Env) (s : Shared) (H : Hp) (args : Args) (us : List Value) (vs : List V) (Q : VK) (E : XK), Room k A → Env0 P w K mg base A outer s H → BindsTo s fd args (ps.zip us) → Vals vs us → sp vs H Q E →
    codeAny (model P w) A (.call (.ref f) args) (CR CX outer P w H s Q E) s
section
variable {X : Cx} {pins : List (Addr × Obj)} {σ : St} {H : Hp} {s s' : Shared}
/-- from a body: what a callee wants -/
theorem Inv.env0 (I : Inv X pins σ H s) : Env0 X.prog X.w X.K X.mg X.base X.A X.stack s H :=
  ⟨I.ok.frames, I.ok.mod, I.bs, Nat.le_trans I.ok.bsz I.sz, I.stack, I.stkFree, I.hok, I.bare⟩
/-- behind a call -/
theorem Inv.after {Q : VK} {u : Value} (I : Inv X pins σ H s) (h : CE X.stack X.prog X.w H s Q u s') : EP X pins σ Q u s' := by
  obtain ⟨v, H', os, bare, un, hok, r, q⟩ := h
  obtain ⟨hh, g, d, t, os'⟩ := s'
  obtain rfl : os' = s.os := os
  exact ⟨v, H', I.call (h' := hh) (g' := g) (d' := d) (t' := t) (ch := []) un hok bare (fun b z => absurd z (by simp)), r, q⟩
end

/-! ### calls -/
/-- f(..): the written arguments, then the defaults dvs; E: what is wanted of an exception -/
noncomputable def tCall (sp : Sp) (dvs : List V) (E : XK) (t : TA) : TE := fun σ H Q => t σ H fun vs H1 => sp (vs ++ dvs) H1 Q E
/-- how the parameters are bound: us the positional arguments, kw the keywords' values by name, ds the defaults that fill up -/
noncomputable def Binds (K : PySem.W.Frag) (fd : FuncData) (ps : List Str) (ds : List Value) : Prop :=
  ∀ (s : Shared) (us : List Value), K.In s.heap → (us ++ ds).length = ps.length → BindsTo s fd ⟨us, []⟩ (ps.zip (us ++ ds))
/-- every parameter is given -/
theorem Binds.all {K : PySem.W.Frag} {fd : FuncData} {ps : List Str} (h : ∀ us : List Value, us.length = ps.length → bindArgs fd ⟨us, []⟩ = pure (ps.zip us)) : Binds K fd ps [] := fun s us _ hl => by
  rw [List.append_nil] at hl ⊢
  exact .of_eq (h us hl)

/-- an exception of a callee reaches what this body wants of exceptions -/
noncomputable def Passes (CX : CXT) (X : Cx) (E : XK) : Prop := ∀ (pins : List (Addr × Obj)) (σ : St) (H : Hp) (s : Shared) (e : Value) (s' : Shared), Inv X pins σ H s → CX X.stack H s E e s' → X.xe e s'

section
variable {X : Cx} {CX : CXT} {k : Nat} {f C : Addr} {fd : FuncData} {ps : List Str} {sp : Sp} {dvs : List V} {ds : List Value} {E : XK} {x m : Str} {p pos apos : Pos} {e o : Expr} {es : List Expr} {ta : TE} {t : TA}

/-- the callee runs -/
theorem run_fn {pins : List (Addr × Obj)} {σ : St} {H : Hp} {s : Shared} {Q : VK} {us : List Value} {vs : List V} (F : FnOk X.prog X.w X.K X.mg X.base CX k f fd ps sp) (hr : Room k X.A) (hb : Binds X.K fd ps ds) (hd : Vals dvs ds) (hx : Passes CX X E)
    (I : Inv X pins σ H s) (r : Vals vs us) (h : sp (vs ++ dvs) H Q E) : wpAny (model X.prog X.w) X.A (call (.ref f) us) (EP X pins σ Q) X.xe s := by
  have r2 : Vals (vs ++ dvs) (us ++ ds) := r.append hd
  have hl : (us ++ ds).length = ps.length := by rw [← r2.length]; exact F.len _ _ _ _ h
  refine wpAny_call (codeAny_mono (F.run X.A X.stack s H ⟨us, []⟩ (us ++ ds) (vs ++ dvs) Q E hr I.env0 (hb s us I.kIn hl) r2 h) fun r s' hq => ?_)
  cases r with
  | error e => exact hx pins σ H s e s' I hq
  | ok fl =>
    cases fl with
    | ret u => exact I.after hq
    | next => exact False.elim hq
    | brk => exact False.elim hq
    | cont => exact False.elim hq

theorem pe_call (F : FnOk X.prog X.w X.K X.mg X.base CX k f fd ps sp) (hr : Room k X.A) (hg : Gl X x) (hm : X.mg x = some (.ref f)) (hk : PySem.W.keepIn X.K (.ref f) = true) (hb : Binds X.K fd ps ds) (hd : Vals dvs ds) (hx : Passes CX X E)
    (ha : PA X (e :: es) t) (hdb : (x == ("__debug__" : Str)) = false := by decide) (he : starEach (e :: es) X.env = (false, eval e X.env) :: starEach es X.env := by rfl) (hpl : (backTo pos (starEach es X.env)).any (·.1) = false := by rfl) :
    PE X (.Call (.Name x p) (e :: es) [] pos) (tCall sp dvs E t) := by
  intro pins s σ H Q I h
  refine wpAny_Call_Name_kw (ld_glob I hg hm ?_ hdb)
  refine PySem.W.callWith_K (h₀ := X.base) I.ok.mod.kin hk (thn (ha pos pins s σ H _ I h) fun us s1 ⟨vs, H1, I1, r, q⟩ => ⟨I1.kIn, ?_⟩) he hpl
  exact run_fn F hr hb hd hx I1 r q
end

/-! ### keywords -/
/-- the values of the keywords, from the left -/
noncomputable def PK (X : Cx) (kws : List Keyword) (t : TA) : Prop :=
  ∀ (pos : Pos) (pins : List (Addr × Obj)) (s : Shared) (σ : St) (H : Hp) (Q : List V → Hp → Prop), Inv X pins σ H s → t σ H Q → wpAny (model X.prog X.w) X.A (evalAll ((backToKw pos (keywordEach kws X.env)).map (·.2))) (AP X pins σ Q) X.xe s
section
variable {X : Cx} {CX : CXT} {k : Nat} {f C : Addr} {fd : FuncData} {ps ks : List Str} {sp : Sp} {E : XK} {x m : Str} {p pos apos kpos : Pos} {e o : Expr} {es : List Expr} {kws : List Keyword} {te ta : TE} {t tk : TA} {nm : Option Str}
theorem pk_nil : PK X [] tNil := fun _ _ _ _ H Q I h => wpAny_evalAll_nil ⟨[], H, I, .nil, h⟩
theorem pk_cons (ha : PE X e te) (hr : PK X kws t) : PK X (⟨nm, e, kpos⟩ :: kws) (tCons te t) := by
  intro pos pins s σ H Q I h
  show wpAny _ _ (evalAll ((do let v ← eval e X.env; standAt pos; pure v) :: (backToKw pos (keywordEach kws X.env)).map (·.2))) _ _ s
  refine wpAny_evalAll_cons (wpAny_bind (thn (ha pins s σ H _ I h) fun u s1 ⟨x, H1, I1, r1, q1⟩ => wpAny_bind (wpAny_standAt (wpAny_pure ?_))))
  exact thn (hr pos pins s1 σ H1 _ I1 q1) fun us s2 ⟨xs, H2, I2, r2, q2⟩ => ⟨x :: xs, H2, I2, .cons r1 r2, q2⟩

variable {g : List Value → List Value → List Value} {gV : List V → List V → List V}
end

/-! ### a def's body keeps its promise -/
/-- names: the parameters first -/
structure FnScope (N P : List Str) (sc : Scope) : Prop where
  kind : sc.kind = .function
  co : sc.isCoroutine = false
  gen : sc.isGenerator = false
  nd : N.Nodup
  pre : N.take P.length = P
  par : ∀ x ∈ P, sc.names.lookup x = some .local ∨ sc.names.lookup x = some .cell
  nofree : ∀ y ∈ sc.names, y.2 ≠ .free

theorem bindL_out {kindOf : Str → Option NameKind} {x : Str} : ∀ {binds : List (Str × Value)} {m : Str → Option Value}, (∀ v, (x, v) ∉ binds) → bindL kindOf binds m x = m x
  | [], _, _ => rfl
  | (n, v) :: r, m, h => by
    unfold bindL
    rw [bindL_out fun w hw => h w (List.mem_cons_of_mem _ hw)]
    split
    · have : x ≠ n := by rintro rfl; exact h v List.mem_cons_self
      simp [this]
    · rfl
theorem bindC_out {kindOf : Str → Option NameKind} {x : Str} : ∀ {binds : List (Str × Value)} {m : Str → Option Value}, (∀ v, (x, v) ∉ binds) → bindC kindOf binds m x = m x
  | [], _, _ => rfl
  | (n, v) :: r, m, h => by
    unfold bindC
    rw [bindC_out fun w hw => h w (List.mem_cons_of_mem _ hw)]
    split
    · rfl
    · have : x ≠ n := by rintro rfl; exact h v List.mem_cons_self
      simp [this]
theorem bindL_get {kindOf : Str → Option NameKind} {x : Str} {v : Value} : ∀ {P : List Str} {vs : List Value} {i : Nat} {m : Str → Option Value}, P.Nodup → P[i]? = some x → vs[i]? = some v → kindOf x = some .local →
    bindL kindOf (P.zip vs) m x = some v
  | [], _, _, _, _, h, _, _ => by simp at h
  | _ :: _, [], _, _, _, _, h, _ => by simp at h
  | p :: P, w :: vs, 0, m, nd, h1, h2, hk => by
    simp at h1 h2; subst h1; subst h2
    show bindL kindOf ((p, w) :: P.zip vs) m p = _
    unfold bindL
    rw [bindL_out fun v hv => (List.nodup_cons.mp nd).1 (List.of_mem_zip hv).1, if_pos hk]
    simp
  | p :: P, w :: vs, i + 1, m, nd, h1, h2, hk => by
    show bindL kindOf ((p, w) :: P.zip vs) m x = _
    unfold bindL
    exact bindL_get (i := i) (List.nodup_cons.mp nd).2 (by simpa using h1) (by simpa using h2) hk
theorem bindC_get {kindOf : Str → Option NameKind} {x : Str} {v : Value} : ∀ {P : List Str} {vs : List Value} {i : Nat} {m : Str → Option Value}, P.Nodup → P[i]? = some x → vs[i]? = some v → kindOf x ≠ some .local →
    bindC kindOf (P.zip vs) m x = some v
  | [], _, _, _, _, h, _, _ => by simp at h
  | _ :: _, [], _, _, _, _, h, _ => by simp at h
  | p :: P, w :: vs, 0, m, nd, h1, h2, hk => by
    simp at h1 h2; subst h1; subst h2
    show bindC kindOf ((p, w) :: P.zip vs) m p = _
    unfold bindC
    rw [bindC_out fun v hv => (List.nodup_cons.mp nd).1 (List.of_mem_zip hv).1, if_neg hk]
    simp
  | p :: P, w :: vs, i + 1, m, nd, h1, h2, hk => by
    show bindC kindOf ((p, w) :: P.zip vs) m x = _
    unfold bindC
    exact bindC_get (i := i) (List.nodup_cons.mp nd).2 (by simpa using h1) (by simpa using h2) hk

/-- the names' values at the entry -/
noncomputable def start (N : List Str) (vs : List V) : St := vs.map some ++ List.replicate (N.length - vs.length) none

/-- the context of a def's body, at its entry; an exception leaves the frame, then lies as CX says -/
noncomputable def cxOf (CX : CXT) (P : Program) (w : World) (K : PySem.W.Frag) (mg : Str → Option Value) (base : Heap) (N : List Str) (qual : Str) (scope : Scope) (f : Addr) (cd : Value) (A : Around) (outer : List Env) (s : Shared) (H : Hp) (E : XK) : Cx where
  prog := P
  w := w
  K := K
  mg := mg
  base := base
  A := A.deeper (envOfC qual scope s.heap.objs.size f cd)
  N := N
  s₀ := s
  H₀ := H
  env := envOfC qual scope s.heap.objs.size f cd
  outer := outer
  stack := envOfC qual scope s.heap.objs.size f cd :: outer
  ex := []
  calm := true
  fn := fun _ => true
  pn := []
  xe := fun e s' => wpAny (model P w) (A.deeper (envOfC qual scope s.heap.objs.size f cd)) (leaving (envOfC qual scope s.heap.objs.size f cd) e) (fun _ s'' => CX outer H s E e s'') (fun e' s'' => CX outer H s E e' s'') s'

theorem cell_has {sc : Scope} {n : Nat} {x : Str} (h : sc.names.lookup x = some .cell) : ∃ c, (cellsFrom n sc.names []).lookup x = some c := by
  have q := PySem.W.cellsFrom_some sc.names n [] (.inl h)
  exact Option.isSome_iff_exists.mp q

theorem inv_start {CX : CXT} {P : Program} {w : World} {K : PySem.W.Frag} {mg : Str → Option Value} {base : Heap} {N ps : List Str} {qual : Str} {scope : Scope} {f : Addr} {cd : Value} {A : Around} {outer : List Env} {s s1 : Shared} {H : Hp} {E : XK} {us : List Value} {vs : List V}
    (S : FnScope N ps scope) (hd : A.handled = none) (e0 : Env0 P w K mg base A outer s H) (hl : vs.length = ps.length) (r : Vals vs us)
    (x : InCallC s s.heap.objs.size (bindL (envOfC qual scope s.heap.objs.size f cd).kindOf (ps.zip us) fun _ => none) (cellsFrom (s.heap.objs.size + 1) scope.names []) (bindC (envOfC qual scope s.heap.objs.size f cd).kindOf (ps.zip us) fun _ => none) s1) :
    Inv (cxOf CX P w K mg base N qual scope f cd A outer s H E) [] (start N vs) H s1 := by
  have hpl : ps.length ≤ N.length := by have := congrArg List.length S.pre; rw [List.length_take] at this; omega
  obtain ⟨h1, tk, rfl, hk⟩ := x.done
  have noA : ∀ b : Addr, b ∉ (cxOf CX P w K mg base N qual scope f cd A outer s H E).ex := fun b z => absurd (show b ∈ ([] : List Addr) from z) (by simp)
  refine ⟨⟨e0.mod, S.kind, rfl, rfl, Nat.le_refl _, fun y z c h1 h2 => ?_, fun y hy => ?_, fun y c _ h => ?_, fun _ => hd, Around.frames_deeper e0.frames, .inr ⟨rfl, rfl⟩, fun b z => absurd z (noA b), e0.bs, e0.bsz, fun b _ _ => noA b, fun b z => absurd z (noA b), e0.funs, e0.frf⟩,
    rfl, e0.bare, Un.kept hk, ⟨_, x.toInCall.ns, fun i y v h1 h2 h3 => ?_⟩, fun y c h => ⟨_, x.cell y c h⟩, e0.hok.fresh (Nat.le_refl _), fun y c h => ?_, fun p hp => absurd (show p ∈ ([] : List (Addr × Obj)) from hp) (by simp), e0.hok.kept hk, ?_⟩
  · exact name_of_addr x.apart (PySem.mem_of_lookup h1) (PySem.mem_of_lookup h2)
  · have hy : scope.names.lookup y = some .cell ∨ scope.names.lookup y = some .free := hy
    rcases hy with hy | hy
    · exact cell_has hy
    · exact absurd rfl (S.nofree _ (PySem.mem_of_lookup hy))
  · exact Nat.le_of_lt (x.above y c (PySem.mem_of_lookup h))
  · have hi : i < vs.length := by
      unfold start at h2
      by_cases hi : i < vs.length
      · exact hi
      · rw [List.getElem?_append_right (by simpa using hi)] at h2
        rw [List.getElem?_replicate] at h2
        split at h2 <;> cases h2
    have ha : vs[i]? = some v := by
      unfold start at h2
      rw [List.getElem?_append_left (by simpa using hi), List.getElem?_map] at h2
      cases e : vs[i]? with
      | none => rw [e] at h2; cases h2
      | some a => rw [e] at h2; cases h2; rfl
    obtain ⟨u, hu, rv⟩ := r.get ha
    have hp : ps[i]? = some y := by
      rw [← S.pre, List.getElem?_take_of_lt (by omega)]; exact h1
    have ndP : ps.Nodup := by rw [← S.pre]; exact S.nd.sublist (List.take_sublist _ _)
    refine ⟨u, rv, ?_⟩
    rcases S.par y (List.mem_of_getElem? hp) with k | k
    · exact .inl ⟨k, bindL_get ndP hp hu k⟩
    · obtain ⟨c, e⟩ := cell_has (n := s.heap.objs.size + 1) k
      refine .inr ⟨.inl k, c, e, ?_⟩
      have q := x.cell y c e
      rw [bindC_get ndP hp hu (by show scope.names.lookup y ≠ _; rw [k]; decide)] at q
      exact q
  · exact e0.hok.fresh (Nat.le_of_lt (x.above y c (PySem.mem_of_lookup h)))
  · unfold start
    show _ = N.length
    rw [List.length_append, List.length_map, List.length_replicate]
    omega

/-- THE RULE: a def (or a method) of the text, by its body. The body's reading t is chosen for each entry; it is run at the parameters' values -/
theorem fn_of {CX : CXT} {P : Program} {w : World} {K : PySem.W.Frag} {mg : Str → Option Value} {base : Heap} {k : Nat} {f : Addr} {name qual : Str} {params : Arguments} {body : List Stmt} {scope : Scope} {dV kV doc pm cdv ct oc : Value} {an od : Option Addr}
    {osl : Array (Option Value)} {N ps : List Str} {sp : Sp} (lk : K.lookup f = some ⟨oc, od, .func (PySem.W.fnOf name qual params body scope dV kV doc pm an cdv ct), osl⟩) (hcd : PySem.W.codeIn K cdv qual = true) (S : FnScope N ps scope)
    (len : ∀ vs H Q E, sp vs H Q E → vs.length = ps.length)
    (hbody : ∀ (A : Around) (outer : List Env) (s : Shared) (H : Hp) (vs : List V) (Q : VK) (E : XK), Room k (A.deeper (envOfC qual scope s.heap.objs.size f cdv)) → sp vs H Q E →
      ∃ t, PSs (cxOf CX P w K mg base N qual scope f cdv A outer s H E) body t ∧ t { nx := fun _ H' => Q .non H', rt := Q } (start N vs) H) :
    FnOk P w K mg base CX (k + 1) f (PySem.W.fnOf name qual params body scope dV kV doc pm an cdv ct) ps sp := by
  refine ⟨len, fun A outer s H args us vs Q E hr e0 hb r hsp => ?_⟩
  have hl := len _ _ _ _ hsp
  have KX : K.In s.heap := e0.mod.kin.keeps fun b o e => (e0.bs b o e).1
  have lim : s.heap.NoLimit := e0.mod.nolimit.keeps fun b o e => (e0.bs b o e).1
  have hkind : ∀ y ∈ ps.zip us, scope.names.lookup y.1 = some .local ∨ (scope.names.lookup y.1 = some .cell ∧ ((cellsFrom (s.heap.objs.size + 1) scope.names []).lookup y.1).isSome = true) := fun ⟨n, v⟩ hy => by
    rcases S.par n (List.of_mem_zip hy).1 with q | q
    · exact .inl q
    · exact .inr ⟨q, PySem.W.cellsFrom_some _ _ _ (.inl q)⟩
  refine codeAny_call_function hr.depth (KX _ _ lk) rfl S.co S.gen rfl (PySem.W.codeRec_of KX hcd) (hb _ _ _ _ ?_)
  refine wpAny_newFunctionEnv_cells S.kind hkind fun env he s1 x => ?_
  subst he
  refine ⟨lim.keeps x.toInCall.keep, codeAny_func ?_⟩
  obtain ⟨t, ht, hq⟩ := hbody A outer s H vs Q E (hr.deeper _) hsp
  have I : Inv (cxOf CX P w K mg base N qual scope f cdv A outer s H E) [] (start N vs) H s1 := inv_start S hr.hd e0 hl r x
  refine wpAny_mono (ht [] s1 (start N vs) H _ I hq) (fun fl s' hs => ?_) fun e s' hs => hs
  have fin : ∀ {σ' : St} {H' : Hp} {v : V} {u : Value}, Inv (cxOf CX P w K mg base N qual scope f cdv A outer s H E) [] σ' H' s' → RelV v u → Q v H' → CE outer P w H s Q u s' :=
    fun {σ' H' v u} J rv q => ⟨v, H', J.os, J.bare, J.base, J.hok, rv, q⟩
  cases fl with
  | ret u =>
    obtain ⟨v, σ', H', J, rv, q⟩ := hs
    exact fin J rv q
  | next =>
    obtain ⟨σ', H', J, q⟩ := hs
    exact fin (v := V.non) (u := Value.none) J rfl q
  | brk =>
    obtain ⟨_, _, _, q⟩ := hs
    exact False.elim q
  | cont =>
    obtain ⟨_, _, _, q⟩ := hs
    exact False.elim q
end L2

namespace L2
open PySem PySem.Spec PyProof.Rows
section
variable {X : Cx} {x : Str} {p pos : Pos} {e : Expr} {es : List Expr} {t : TA} {id T : String} {r : List V → Hp → VK → Prop}

noncomputable def tCB (r : List V → Hp → VK → Prop) (t : TA) : TE := fun σ H Q => t σ H fun vs H1 => r vs H1 Q
/-- f(e, ..), f a built-in function -/
theorem pe_callB (hc : CallR X (.builtin id) r) (hg : Gl X x) (hm : X.mg x = none) (hv : bootBuiltins x = some (.builtin id)) (ha : PA X (e :: es) t) (hn : x ≠ "__name__" := by decide) (hdb : (x == ("__debug__" : Str)) = false := by decide)
    (he : starEach (e :: es) X.env = (false, eval e X.env) :: starEach es X.env := by rfl) (hpl : (backTo pos (starEach es X.env)).any (·.1) = false := by rfl) : PE X (.Call (.Name x p) (e :: es) [] pos) (tCB r t) := by
  intro pins s σ H Q I h
  refine wpAny_Call_Name_kw (ld_blt I hg hm hv ?_ hn hdb)
  exact PyProof.Rows.callWith_builtin1 (thn (ha pos pins s σ H _ I h) fun us s1 ⟨vs, H1, I1, r1, q1⟩ => hc pins s1 σ H1 vs us Q I1 r1 q1) he hpl
/-- T(e, ..), T a built-in type -/
theorem pe_callTy (hc : CallR X (.type T) r) (hg : Gl X x) (hm : X.mg x = none) (hv : bootBuiltins x = some (.type T)) (ha : PA X (e :: es) t) (hn : x ≠ "__name__" := by decide) (hdb : (x == ("__debug__" : Str)) = false := by decide)
    (he : starEach (e :: es) X.env = (false, eval e X.env) :: starEach es X.env := by rfl) (hpl : (backTo pos (starEach es X.env)).any (·.1) = false := by rfl) : PE X (.Call (.Name x p) (e :: es) [] pos) (tCB r t) := by
  intro pins s σ H Q I h
  refine wpAny_Call_Name_kw (ld_blt I hg hm hv ?_ hn hdb)
  exact PyProof.Rows.callWith_type1 (thn (ha pos pins s σ H _ I h) fun us s1 ⟨vs, H1, I1, r1, q1⟩ => hc pins s1 σ H1 vs us Q I1 r1 q1) he hpl
end
end L2

namespace HT
open PySem PyProof.Rows

section
open PySem.SeqAt
open PySem.AutoSeq1 (wpAny_loadPart')
open PySem.MeetsSeq PySem.MeetsSeq2 PySem.MeetsSeq3

end

section
variable {prog : Program} {w : World} {A : Around} {E : Value → Shared → Prop} {s : Shared}

/-! ### t[a:b], not the whole -/
/-- a slice's bound as a place among n (d where it is left out) -/
noncomputable def sIx (n d : Nat) : Option Int → Nat
  | none => d
  | some v => if v < 0 then (v + (n : Int)).toNat else min v.toNat n
theorem sIx_none (n d : Nat) : sIx n d none = d := rfl
theorem sIx_nat (n d k : Nat) : sIx n d (some (k : Int)) = min k n := by
  show (if (k : Int) < 0 then ((k : Int) + (n : Int)).toNat else min (k : Int).toNat n) = min k n
  rw [if_neg (by omega), Int.toNat_natCast]
end
end HT

namespace L2
open PySem PySem.Spec PyProof.Rows

/-! ### the parts of a slice -/
noncomputable abbrev TO := St → Hp → (Option Int → Hp → Prop) → Prop
/-- a slice's part (left out, or an int) -/
noncomputable def PO (X : Cx) (e : Option Expr) (t : TO) : Prop :=
  ∀ (pins : List (Addr × Obj)) (s : Shared) (σ : St) (H : Hp) (Q : Option Int → Hp → Prop), Inv X pins σ H s → t σ H Q →
    wpAny (model X.prog X.w) X.A (evalPart e X.env) (fun u s' => ∃ o H', Inv X pins σ H' s' ∧ IsPart u o ∧ Q o H') X.xe s
noncomputable def tNoPart : TO := fun _ H Q => Q none H
noncomputable def tPart (t : TE) : TO := fun σ H Q => t σ H fun x H1 => ∃ i, x = .int i ∧ Q (some i) H1

theorem intsAre_of {ns : List Int} : ∀ {us : List Value}, Vals (ns.map V.int) us → IntsAre us ns := by
  induction ns with
  | nil => intro us r; rw [List.map_nil] at r; cases r; exact .nil
  | cons n ns ih =>
    intro us r
    rw [List.map_cons] at r
    cases r with
    | cons r1 r2 =>
      obtain ⟨t, e⟩ := r1
      subst e
      exact .cons n t (ih r2)

section
variable {X : Cx} {e : Expr} {te : TE} {lo hi : Option Expr} {tl th : TO} {pos p2 : Pos}

theorem po_none : PO X none tNoPart := by
  intro pins s σ H Q I h
  rw [evalPart_none]
  exact wpAny_pure ⟨none, H, I, .none, h⟩
theorem po_some (h : PE X e te) : PO X (some e) (tPart te) := by
  intro pins s σ H Q I hw
  rw [evalPart_some]
  refine thn (h pins s σ H _ I hw) fun u s1 ⟨x, H1, I1, r1, q1⟩ => ?_
  obtain ⟨i, rfl, q⟩ := q1
  obtain ⟨t, rfl⟩ := r1
  exact ⟨some i, H1, I1, .int i t, q⟩

/-- what a slice of a value is, by values: the slice object stands at sl -/
noncomputable def SlR (X : Cx) (r : V → Option Int → Option Int → Hp → VK → Prop) : Prop :=
  ∀ (pins : List (Addr × Obj)) (s : Shared) (σ : St) (H : Hp) (x : V) (v vl vu : Value) (lo hi : Option Int) (sl : Addr) (Q : VK), Inv X pins σ H s → RelV x v → s.heap.IsSliceOf sl vl vu .none → IsPart vl lo → IsPart vu hi → r x lo hi H Q →
    ∃ T id, typeLookup (.type T) "__getitem__" = pure (some (.builtin id)) ∧ s.TypeIs v T ∧ wpAny (model X.prog X.w) X.A (getItem v (.ref sl)) (EP X pins σ Q) X.xe s
noncomputable def tSl (r : V → Option Int → Option Int → Hp → VK → Prop) (te : TE) (tl th : TO) : TE := fun σ H Q => te σ H fun x H1 => tl σ H1 fun l H2 => th σ H2 fun u H3 => r x l u H3 Q
/-- a[lo:hi], any a -/
theorem pe_slice {r : V → Option Int → Option Int → Hp → VK → Prop} (hr : SlR X r) (he : PE X e te) (hl : PO X lo tl) (hu : PO X hi th) : PE X (.Subscript e (.Slice lo hi none p2) pos) (tSl r te tl th) := by
  intro pins s σ H Q I h
  refine Subscript_ (thn (he pins s σ H _ I h) fun v s1 ⟨x, H1, I1, r1, q1⟩ => ?_)
  refine wpAny_Slice (thn (hl pins s1 σ H1 _ I1 q1) fun vl s2 ⟨l, H2, I2, pl, q2⟩ => thn (hu pins s2 σ H2 _ I2 q2) fun vu s3 ⟨u, H3, I3, pu, q3⟩ => ?_)
  rw [evalPart_none]
  refine wpAny_pure ?_
  have I4 : Inv X pins σ H3 { s3 with heap := s3.heap.push { cls := .type "slice", data := .fields #[vl, vu, .none] } } := I3.kept (t' := s3.toks) fun b ob q => Heap.get?_push_of_some _ q
  obtain ⟨T, id, hT, ht, hg⟩ := hr pins { s3 with heap := s3.heap.push { cls := .type "slice", data := .fields #[vl, vu, .none] } } σ H3 x v vl vu l u s3.heap.objs.size Q I4 r1 (Heap.IsSliceOf.new ..) pl pu q3
  show wpAny (model X.prog X.w) X.A (subscriptTail e (.Slice lo hi none p2) v (.ref s3.heap.objs.size)) (EP X pins σ Q) X.xe { s3 with heap := s3.heap.push { cls := .type "slice", data := .fields #[vl, vu, .none] } }
  exact tail_any (ops := [.ref s3.heap.objs.size, v]) ht hT hg (by with_unfolding_all rfl)

/-- the items of xs[lo:hi] -/
noncomputable def cutV (xs : List V) (lo hi : Option Int) : List V := (xs.drop (HT.sIx xs.length 0 lo)).take (HT.sIx xs.length xs.length hi - HT.sIx xs.length 0 lo)
theorem cutV_length (xs : List V) (lo hi : Option Int) : (cutV xs lo hi).length ≤ xs.length := by
  unfold cutV
  rw [List.length_take, List.length_drop]
  omega
/-! ### t < u, t + u -/
end
end L2

namespace L2
open PySem PySem.Spec PyProof.Rows

/-! ### places -/
/-- the place that an index of any sign means -/
noncomputable def ixN (n : Nat) (i : Int) : Option Nat := if 0 ≤ i then (if i < n then some i.toNat else none) else if -(n : Int) ≤ i then some (i + n).toNat else none
noncomputable def atI {α : Type} (xs : List α) (i : Int) : Option α := (ixN xs.length i).bind fun j => xs[j]?
theorem ixN_seq {n : Nat} {i : Int} {j : Nat} (h : ixN n i = some j) : seqIndex? i n = some j ∧ j < n ∧ -(n : Int) ≤ i ∧ i < n := by
  unfold ixN at h
  by_cases h0 : 0 ≤ i
  · rw [if_pos h0] at h
    by_cases h1 : i < n
    · rw [if_pos h1] at h
      have e : i.toNat = j := Option.some.inj h
      exact ⟨by rw [seqIndex_of h0 h1, e], by omega, by omega, h1⟩
    · rw [if_neg h1] at h; cases h
  · rw [if_neg h0] at h
    by_cases h1 : -(n : Int) ≤ i
    · rw [if_pos h1] at h
      have e : (i + n).toNat = j := Option.some.inj h
      exact ⟨by rw [seqIndex_neg (by omega) h1, e], by omega, h1, by omega⟩
    · rw [if_neg h1] at h; cases h
theorem atI_get {α : Type} {xs : List α} {i : Int} {v : α} (h : atI xs i = some v) : ∃ j, seqIndex? i xs.length = some j ∧ xs[j]? = some v ∧ j < xs.length ∧ -(xs.length : Int) ≤ i ∧ i < xs.length := by
  unfold atI at h
  cases e : ixN xs.length i with
  | none => rw [e] at h; cases h
  | some j =>
    rw [e] at h
    obtain ⟨h1, h2, h3, h4⟩ := ixN_seq e
    exact ⟨j, h1, h, h2, h3, h4⟩
theorem atI_nat {α : Type} {xs : List α} {j : Nat} {v : α} (h : xs[j]? = some v) : atI xs (j : Int) = some v := by
  have hj : j < xs.length := (List.getElem?_eq_some_iff.mp h).1
  have e : ixN xs.length (j : Int) = some j := by
    unfold ixN
    rw [if_pos (by omega), if_pos (by omega)]; simp
  unfold atI; rw [e]; exact h
/-! ### what may be subscripted -/
/-- what stands as an index of a plain subscript -/
noncomputable def PlainIx (b : Expr) : Prop := ∀ o i, subscripted b false o i = operate [o, i] (getItem o i)
/-- a subscript by values -/
noncomputable def IxR (X : Cx) (r : R2) : Prop :=
  ∀ (value slice : Expr) (pins : List (Addr × Obj)) (s : Shared) (σ : St) (H : Hp) (x y : V) (v u : Value) (Q : VK), Inv X pins σ H s → RelV x v → RelV y u → r x y H Q →
    subscripted slice false v u = operate [v, u] (getItem v u) → wpAny (model X.prog X.w) X.A (subscriptTail value slice v u) (EP X pins σ Q) X.xe s
/-- a call of a builtin's method by values: the receiver, the arguments -/
noncomputable def MtR (X : Cx) (id : String) (r : V → List V → Hp → VK → Prop) : Prop :=
  ∀ (pins : List (Addr × Obj)) (s : Shared) (σ : St) (H : Hp) (x : V) (xs : List V) (v : Value) (us : List Value) (Q : VK), Inv X pins σ H s → RelV x v → Vals xs us → r x xs H Q →
    wpAny (model X.prog X.w) X.A (call (.builtin id) (v :: us)) (EP X pins σ Q) X.xe s
section
variable {X : Cx} {a b : Expr} {ta tb : TE} {pos : Pos}
/-- a[b] -/
theorem pe_ix {r : R2} (hr : IxR X r) (ha : PE X a ta) (hb : PE X b tb) (hs : PlainIx b) : PE X (.Subscript a b pos) (tOp r ta tb) := by
  intro pins s σ H Q I h
  exact Subscript_ (binT ha hb I h fun v u s2 x y H2 I2 rx ry q => hr a b pins s2 σ H2 x y v u Q I2 rx ry q (hs _ _))

noncomputable def rIxL (K : PySem.W.Frag) : R2 := fun x y H Q => ∃ p xs i v, x = .ref p ∧ y = .int i ∧ SqL K H p xs ∧ atI xs i = some v ∧ Q v H
noncomputable def rIxT (K : PySem.W.Frag) : R2 := fun x y H Q => ∃ p xs i v, x = .ref p ∧ y = .int i ∧ SqT K H p xs ∧ atI xs i = some v ∧ Q v H
theorem ix_list : IxR X (rIxL X.K) := by
  intro value slice pins s σ H x y v u Q I rx ry h hs
  obtain ⟨p, xs, i, z, rfl, rfl, hq, he, q⟩ := h
  cases rx
  obtain ⟨t, rfl⟩ := ry
  obtain ⟨its, r, pl, hz⟩ := I.list hq
  obtain ⟨j, h1, h2, h3, h4, h5⟩ := atI_get he
  obtain ⟨w, ew, rw'⟩ := r.get h2
  have hl := r.length
  have hn := line63
  have fin : EP X pins σ Q w s := ⟨z, H, I, rw', q⟩
  by_cases h0 : 0 ≤ i
  · have hj : i.toNat = j := by
      rw [seqIndex_of h0 h5] at h1
      exact Option.some.inj h1
    exact item_listR pl.isList h0 (by omega) (by rw [hj]; simpa using ew) fin hs
  · have hj : (i + (its.toArray.size : Int)).toNat = j := by
      rw [seqIndex_neg (by omega) h4] at h1
      rw [List.size_toArray, ← hl]
      exact Option.some.inj h1
    exact subscriptTail_builtinR (x := w) pl.isList.typeIs slot_list_getitem.lookup
      (wpAny_getItem_list_neg (Q := fun r s' => r = w ∧ EP X pins σ Q r s') pl.isList (by omega) (by rw [List.size_toArray] <;> omega) (by omega) (by rw [hj]; simpa using ew) ⟨rfl, fin⟩) hs
theorem ix_tup : IxR X (rIxT X.K) := by
  intro value slice pins s σ H x y v u Q I rx ry h hs
  obtain ⟨p, xs, i, z, rfl, rfl, hq, he, q⟩ := h
  cases rx
  obtain ⟨t, rfl⟩ := ry
  obtain ⟨its, r, pl, hz⟩ := I.tuple hq
  obtain ⟨j, h1, h2, h3, h4, h5⟩ := atI_get he
  obtain ⟨w, ew, rw'⟩ := r.get h2
  have hl := r.length
  have hn := line63
  have fin : EP X pins σ Q w s := ⟨z, H, I, rw', q⟩
  exact subscriptTail_builtinR (x := w) pl.typeIs slot_tuple_getitem.lookup
    (getItem_tuple (j := j) (Q := fun r s' => r = w ∧ EP X pins σ Q r s') pl (by omega) (by omega) (by rw [List.size_toArray, ← hl]; exact h1) (by simpa using ew) ⟨rfl, fin⟩) hs
/-! ### xs[i] = v, any sign -/
/-- the list's object behind a store -/
theorem mapSeq_set (its : List Value) (n j : Nat) (u : Value) : Obj.mapSeq (·.setIfInBounds j u) { cls := .type "list", data := .seq its.toArray n } = { cls := .type "list", data := .seq (its.set j u).toArray n } := by
  simp [Obj.mapSeq]
theorem Inv.lst {pins : List (Addr × Obj)} {σ : St} {H : Hp} {s : Shared} {p : Addr} {xs : List V} (I : Inv X pins σ H s) (h : H p = some (.lst xs)) :
    ∃ (its : List Value) (n : Nat), Vals xs its ∧ s.heap.get? p = some { cls := .type "list", data := .seq its.toArray n } ∧ xs.length ≤ sizeLine := by
  obtain ⟨z, its, n, r, e⟩ := I.hok p _ h
  exact ⟨its, n, r, e, z⟩
/-- the list at p is written by an update of its object -/
theorem Inv.lstUpd {pins : List (Addr × Obj)} {σ : St} {H : Hp} {s : Shared} {p : Addr} {xs ys : List V} {its its' : List Value} {n n' : Nat} {f : Obj → Obj} (I : Inv X pins σ H s) (h : H p = some (.lst xs))
    (ho : s.heap.get? p = some { cls := .type "list", data := .seq its.toArray n }) (hf : f { cls := .type "list", data := .seq its.toArray n } = { cls := .type "list", data := .seq its'.toArray n' }) (r : Vals ys its') (hz : ys.length ≤ sizeLine) (t : Nat) :
    Inv X pins σ (upd H p (.lst ys)) { s with heap := s.heap.update p f, toks := t } := by
  have e : (s.heap.update p f).get? p = some { cls := .type "list", data := .seq its'.toArray n' } := by
    rw [Heap.get?_update_self f ho (by rw [hf] <;> rfl), hf]
  refine I.write (x := p) (e := p) (by rw [h]; trivial) (.inl rfl) (fun b u hb q => (Heap.get?_update_other _ _ (Ne.symm hb)).trans q) ⟨_, e⟩ ?_
  exact ⟨hz, its', n', r, e⟩
noncomputable def rSetL : V → V → V → Hp → (Hp → Prop) → Prop := fun o i v H Q => ∃ p xs k j, o = .ref p ∧ i = .int k ∧ H p = some (.lst xs) ∧ ixN xs.length k = some j ∧ Q (upd H p (.lst (xs.set j v)))
theorem set_list : PSet X rSetL := by
  intro pins s σ H o i v ov iv u Q I ro ri rv h
  obtain ⟨p, xs, k, j, rfl, rfl, hp, hj, q⟩ := h
  cases ro
  obtain ⟨t, rfl⟩ := ri
  obtain ⟨its, n, r, ho, hz⟩ := I.lst hp
  obtain ⟨h1, h2, h3, h4⟩ := ixN_seq hj
  have hl := r.length
  have hn := line63
  have I' : Inv X pins σ (upd H p (.lst (xs.set j v))) { s with heap := s.heap.update p (Obj.mapSeq (·.setIfInBounds j u)) } :=
    I.lstUpd hp ho (mapSeq_set its n j u) (r.set rv j) (by rw [List.length_set]; exact hz) s.toks
  by_cases h0 : 0 ≤ k
  · have hk : k.toNat = j := by
      rw [seqIndex_of h0 h4] at h1
      exact Option.some.inj h1
    exact PySem.W.ki_setAt ho h0 (by omega) (by rw [List.size_toArray, ← hl]; exact h4) (by rw [hk]; exact ⟨_, I', q⟩)
  · have hk : (k + (its.toArray.size : Int)).toNat = j := by
      rw [seqIndex_neg (by omega) h3] at h1
      rw [List.size_toArray, ← hl]
      exact Option.some.inj h1
    exact PySem.W.ki_setBack ho (by omega) (by rw [List.size_toArray, ← hl]; exact h3) (by omega) (by rw [hk]; exact ⟨_, I', q⟩)

/-! ### slices -/
theorem slice_bounds (lo hi : Option Int) (n : Nat) : (sliceBounds lo hi none n).1 = ((HT.sIx n 0 lo : Nat) : Int) ∧ (sliceBounds lo hi none n).2.1 = ((HT.sIx n n hi : Nat) : Int) ∧ (sliceBounds lo hi none n).2.2 = 1 := by
  refine ⟨?_, ?_, rfl⟩
  · cases lo with
    | none => simp [sliceBounds, HT.sIx]
    | some i =>
      simp only [sliceBounds, HT.sIx, Option.getD_none, show (1 : Int) > 0 by decide, if_true]
      by_cases h : i < 0
      · simp only [h, if_true] <;> omega
      · simp only [h, if_false] <;> omega
  · cases hi with
    | none => simp [sliceBounds, HT.sIx]
    | some i =>
      simp only [sliceBounds, HT.sIx, Option.getD_none, show (1 : Int) > 0 by decide, if_true]
      by_cases h : i < 0
      · simp only [h, if_true] <;> omega
      · simp only [h, if_false] <;> omega
theorem slicePick_cut (its : List Value) (lo hi : Option Int) : slicePick its.toArray lo hi none = ((its.drop (HT.sIx its.length 0 lo)).take (HT.sIx its.length its.length hi - HT.sIx its.length 0 lo)).toArray := by
  obtain ⟨h1, h2, h3⟩ := slice_bounds lo hi its.toArray.size
  unfold slicePick
  rw [h1, h2, h3]
  simp only [sliceRange_one, pick_run, List.size_toArray] <;> rfl
/-- xs[lo:hi] of a list: a new list -/
noncomputable def rSlL (K : PySem.W.Frag) : V → Option Int → Option Int → Hp → VK → Prop := fun x lo hi H Q => ∃ a xs, x = .ref a ∧ SqL K H a xs ∧ ∀ p, H p = none → Q (.ref p) (upd H p (.lst (cutV xs lo hi)))
theorem sl_list : SlR X (rSlL X.K) := by
  intro pins s σ H x v vl vu lo hi sl Q I rx hs pl pu h
  obtain ⟨a, xs, rfl, hx, q⟩ := h
  cases rx
  obtain ⟨its, r, ht, hz⟩ := I.list hx
  have hlen := r.length
  refine ⟨"list", _, slot_list_getitem.lookup, ht.isList.typeIs, ?_⟩
  refine wpAny_getItem_list_slice ht.isList hs pl pu .none (by simp) ?_ (by rw [List.size_toArray] <;> omega)
  rw [slicePick_cut, ← hlen]
  refine ⟨.ref s.heap.objs.size, _, I.laid (t' := s.toks) (o := .lst (cutV xs lo hi)) (fun b ob q => Heap.get?_push_of_some _ q) (Nat.le_refl _) ?_, rfl, q _ (I.hok.fresh (Nat.le_refl _))⟩
  exact ⟨Nat.le_trans (cutV_length xs lo hi) hz, _, 0, (r.drop (HT.sIx xs.length 0 lo)).take (HT.sIx xs.length xs.length hi - HT.sIx xs.length 0 lo), Heap.get?_push_size _ rfl⟩

/-! ### in, not in: flat items -/
/-! ### len, list(x), tuple(x) of any list or tuple that is read -/
theorem call_len_seq : CallR X (.builtin "len") (fun xs H Q => ∃ p ys, xs = [.ref p] ∧ (SqL X.K H p ys ∨ SqT X.K H p ys) ∧ Q (.int ys.length) H) := by
  intro pins s σ H xs us Q I r h
  obtain ⟨p, ys, rfl, hq, q⟩ := h
  obtain ⟨u, rfl, rx⟩ := vals1 r
  cases rx
  have hn := line63
  rcases hq with hq | hq
  · obtain ⟨its, r', pl, hz⟩ := I.list hq
    have hlen := r'.length
    exact Calls.call_len_list pl.isList (by simp only [List.size_toArray] <;> omega) ⟨.int ys.length, H, I.tok _, ⟨s.toks + 1, by rw [List.size_toArray, hlen]⟩, q⟩
  · obtain ⟨its, r', pl, hz⟩ := I.tuple hq
    have hlen := r'.length
    exact len_tuple pl (by simp only [List.size_toArray] <;> omega) ⟨.int ys.length, H, I.tok _, ⟨s.toks + 1, by rw [List.size_toArray, hlen]⟩, q⟩
theorem call_list_of : CallR X (.type "list") (fun xs H Q => ∃ p ys, xs = [.ref p] ∧ (SqL X.K H p ys ∨ SqT X.K H p ys) ∧ ∀ l, H l = none → Q (.ref l) (upd H l (.lst ys))) := by
  intro pins s σ H xs us Q I r h
  obtain ⟨p, ys, rfl, hq, q⟩ := h
  obtain ⟨u, rfl, rx⟩ := vals1 r
  cases rx
  have fin : ∀ (its : List Value), Vals ys its → ys.length ≤ sizeLine → ∀ (h' : Heap) (c' : Nat), (∀ b o', s.heap.get? b = some o' → h'.get? b = some o') →
      h'.get? s.heap.objs.size = some { cls := .type "list", dict := none, data := .seq its.toArray c', slots := #[] } → EP X pins σ Q (.ref s.heap.objs.size) { s with heap := h' } := fun its r' hz h' c' kp e =>
    ⟨.ref s.heap.objs.size, _, I.laid (t' := s.toks) kp (Nat.le_refl _) (show ObjOk X.prog X.w _ h' _ (.lst ys) from ⟨hz, its, c', r', e⟩), rfl, q _ (I.hok.fresh (Nat.le_refl _))⟩
  rcases hq with hq | hq
  · obtain ⟨its, r', pl, hz⟩ := I.list hq
    have hlen := r'.length
    obtain ⟨o, ho, hc, n, hd⟩ := pl.isList
    exact call_list_seq p (.inl rfl) ho hc hd (fun h' c' kp e => fin its r' hz h' c' kp e) (by simp only [List.size_toArray] <;> omega)
  · obtain ⟨its, r', pl, hz⟩ := I.tuple hq
    have hlen := r'.length
    obtain ⟨o, ho, hc, n, hd⟩ := pl
    exact call_list_seq p (.inr rfl) ho hc hd (fun h' c' kp e => fin its r' hz h' c' kp e) (by simp only [List.size_toArray] <;> omega)
/-! ### the call of a builtin's method: o.m(..) -/
/-- the value is of that builtin type -/
noncomputable def tyV (K : PySem.W.Frag) (T : String) (x : V) (H : Hp) : Prop := match x with
  | .str _ => T = "str"
  | .int _ => T = "int"
  | .ref p => (T = "list" ∧ ∃ xs, SqL K H p xs) ∨ (T = "tuple" ∧ ∃ o, K.lookup p = some o ∧ o.cls = .type "tuple" ∧ o.dict = none) ∨
      (T = "dict" ∧ ((∃ kvs, H p = some (.dK kvs)) ∨ ∃ kvs, H p = some (.dT kvs))) ∨ (T = "set" ∧ ∃ S n, H p = some (.set S n))
  | _ => False
theorem tyV_is {pins : List (Addr × Obj)} {σ : St} {H : Hp} {s : Shared} {T : String} {x : V} {v : Value} (I : Inv X pins σ H s) (r : RelV x v) (ty : tyV X.K T x H) :
    s.TypeIs v T ∧ ∀ a, v = .ref a → ∃ ob, s.heap.get? a = some ob ∧ ob.dict = none := by
  cases x with
  | str z =>
    obtain ⟨t, rfl⟩ := r
    cases (show T = "str" from ty)
    exact ⟨typeIs_str s z t, fun _ e => nomatch e⟩
  | int i =>
    obtain ⟨t, rfl⟩ := r
    cases (show T = "int" from ty)
    exact ⟨typeIs_int s i t, fun _ e => nomatch e⟩
  | ref p =>
    cases r
    rcases ty with ⟨rfl, xs, hq⟩ | ⟨rfl, o, hk, hc, hd⟩ | ⟨rfl, hk⟩ | ⟨rfl, S, n, hk⟩
    · obtain ⟨its, _, pl, _⟩ := I.list hq
      refine ⟨pl.isList.typeIs, fun a e => ?_⟩
      cases e
      obtain ⟨o, n, e, c, hd, _⟩ := pl
      exact ⟨o, e, hd⟩
    · refine ⟨⟨o, I.kIn p o hk, hc⟩, fun a e => ?_⟩
      cases e
      exact ⟨o, I.kIn _ o hk, hd⟩
    · have z : ∃ o, s.heap.get? p = some o ∧ o.ExactDict := by
        rcases hk with ⟨kvs, hk⟩ | ⟨kvs, hk⟩
        · obtain ⟨_, _, _, _, o, _, _, e, ex, _⟩ := I.hok p _ hk
          exact ⟨o, e, ex⟩
        · obtain ⟨_, _, _, _, o, _, _, e, ex, _⟩ := I.hok p _ hk
          exact ⟨o, e, ex⟩
      obtain ⟨o, e, ex⟩ := z
      refine ⟨⟨o, e, ex.1⟩, fun a e2 => ?_⟩
      cases e2
      exact ⟨o, e, ex.2.1⟩
    · obtain ⟨o, _, _, _, e, ex, _⟩ := I.hok p _ hk
      refine ⟨⟨o, e, ex.1⟩, fun a e2 => ?_⟩
      cases e2
      exact ⟨o, e, ex.2.1⟩
  | _ => exact False.elim ty
noncomputable def tBM0 (K : PySem.W.Frag) (T : String) (r : V → List V → Hp → VK → Prop) (to : TE) : TE := fun σ H Q => to σ H fun x H1 => tyV K T x H1 ∧ r x [] H1 Q
noncomputable def tBM (K : PySem.W.Frag) (T : String) (r : V → List V → Hp → VK → Prop) (to : TE) (t : TA) : TE := fun σ H Q => to σ H fun x H1 => tyV K T x H1 ∧ t σ H1 fun xs H2 => r x xs H2 Q
variable {o e : Expr} {es : List Expr} {to : TE} {t : TA} {name : Str} {apos cpos : Pos} {T id : String} {r : V → List V → Hp → VK → Prop}
theorem pe_bm0 (pa : PlainAttrs T) (slot : Slot T name id) (hty : typeOf (.builtin id) = pure (.type "method_descriptor")) (hm : MtR X id r) (ho : PE X o to)
    (hbase : attributeBase o name X.env (eval o X.env) = eval o X.env := by rfl) (hline : (apos.endLine == cpos.line) = true := by rfl) : PE X (.Call (.Attribute o name apos) [] [] cpos) (tBM0 X.K T r to) := by
  intro pins s σ H Q I h
  refine wpAny_Call_method0_late hbase hline (thn (ho pins s σ H _ I h) fun v s1 ⟨x, H1, I1, r1, ty, q1⟩ => ?_)
  obtain ⟨h1, h2⟩ := tyV_is I1 r1 ty
  exact ⟨T, id, pa, slot, hty, h1, h2, Calls.callWith_builtin rfl (PySem.evalArgs_none (hm pins s1 σ H1 x [] v [] Q I1 r1 .nil q1))⟩
theorem pe_bm (pa : PlainAttrs T) (slot : Slot T name id) (hty : typeOf (.builtin id) = pure (.type "method_descriptor")) (hm : MtR X id r) (ho : PE X o to) (ha : PA X (e :: es) t)
    (hbase : attributeBase o name X.env (eval o X.env) = eval o X.env := by rfl)
    (hfew : ((backTo cpos (starEach (e :: es) X.env)).all (fun x => !x.1) && (backToKw cpos (keywordEach [] X.env)).all (fun x => x.1.isSome)
      && decide ((e :: es).length + ([] : List Keyword).length + (if ([] : List Keyword).isEmpty then 0 else 1) < 30)) = true := by rfl)
    (hline : (apos.endLine == cpos.line) = true := by rfl) (hs : starEach (e :: es) X.env = (false, eval e X.env) :: starEach es X.env := by rfl) (hplain : (backTo cpos (starEach es X.env)).any (·.1) = false := by rfl) :
    PE X (.Call (.Attribute o name apos) (e :: es) [] cpos) (tBM X.K T r to t) := by
  intro pins s σ H Q I h
  refine wpAny_Call_method_late hbase hfew hline rfl (thn (ho pins s σ H _ I h) fun v s1 ⟨x, H1, I1, r1, ty, q1⟩ => ?_)
  obtain ⟨h1, h2⟩ := tyV_is I1 r1 ty
  refine ⟨T, id, pa, slot, hty, h1, h2, ?_⟩
  have hA := ha cpos pins s1 σ H1 _ I1 q1
  rw [hs] at hA ⊢
  refine Calls.callWith_builtin (by show (false || (backTo cpos (starEach es X.env)).any (·.1)) = false; rw [hplain] <;> rfl) (Calls.evalArgs_plain ?_)
  exact thn hA fun us s2 ⟨vs, H2, I2, r2, q2⟩ => hm pins s2 σ H2 x vs v us Q I2 r1 r2 q2
/- xs.append(e), list.index on a module's tuple .. are MtR facts of 06m -/
end
end L2

namespace L2
open PySem PySem.Spec PyProof.Rows

noncomputable def MtM (X : Cx) (id : String) (r : V → List V → Hp → VK → Prop) : Prop :=
  ∀ (pins : List (Addr × Obj)) (s : Shared) (σ : St) (H : Hp) (x : V) (xs : List V) (v : Value) (us : List Value) (Q : VK), Inv X pins σ H s → RelV x v → Vals xs us → r x xs H Q →
    wpAny (model X.prog X.w) X.A (call (.builtin id) (v :: us)) (EP X pins σ Q) X.xe s

/-! ### lists of values -/
theorem Vals.one : ∀ {x : V} {us : List Value}, Vals [x] us → ∃ u, us = [u] ∧ RelV x u
  | _, _, .cons r .nil => ⟨_, rfl, r⟩
section
variable {X : Cx} {pins : List (Addr × Obj)} {σ : St} {H : Hp} {s : Shared} {l b : Addr} {xs ys zs : List V}

/-! ### the two steps: a tracked list is rewritten, a new list is laid -/
theorem Inv.lset {its its' : List Value} {n : Nat} {f : Array Value → Array Value} {t' : Nat} (I : Inv X pins σ H s) (hH : H l = some (.lst xs))
    (e : s.heap.get? l = some { cls := .type "list", data := .seq its.toArray n }) (hf : f its.toArray = its'.toArray) (hv : Vals ys its') (hz : ys.length ≤ sizeLine) :
    Inv X pins σ (upd H l (.lst ys)) { s with heap := s.heap.update l (Obj.mapSeq f), toks := t' } := by
  have q := PySem.IsL.update e f
  rw [hf] at q
  refine I.write (x := l) (e := l) (by rw [hH]; exact trivial) (.inl rfl) (fun b' u hb hu => (Heap.get?_update_other s.heap (Obj.mapSeq f) (Ne.symm hb)).trans hu) ⟨_, q⟩ ?_
  exact ⟨hz, its', _, hv, q⟩
theorem Inv.lnew {its : List Value} {t' : Nat} (I : Inv X pins σ H s) (hv : Vals ys its) (hz : ys.length ≤ sizeLine) :
    Inv X pins σ (upd H s.heap.objs.size (.lst ys)) { s with heap := s.heap.push { cls := .type "list", data := .seq its.toArray }, toks := t' } :=
  I.laid (fun _ _ q => Heap.get?_push_of_some _ q) (Nat.le_refl _) ⟨hz, its, 0, hv, Heap.get?_push_size _ rfl⟩
theorem Inv.fresh (I : Inv X pins σ H s) : H s.heap.objs.size = none := I.hok.fresh (Nat.le_refl _)
theorem Inv.lstM (I : Inv X pins σ H s) (hH : H l = some (.lst xs)) : xs.length ≤ sizeLine ∧ ∃ (its : List Value) (n : Nat), Vals xs its ∧ xs.length = its.length ∧ s.heap.get? l = some { cls := .type "list", data := .seq its.toArray n } := by
  obtain ⟨z, its, n, r, e⟩ := I.hok l _ hH
  exact ⟨z, its, n, r, r.length, e⟩

theorem notLongL {n : Nat} (h : n ≤ sizeLine) : Builtin.List.listTooLong n = false := by
  unfold Builtin.List.listTooLong
  exact decide_eq_false (by omega)
end

section
variable {X : Cx}

/-! ### methods -/
noncomputable def rAppend : V → List V → Hp → VK → Prop := fun x vs H Q => ∃ l xs y, x = .ref l ∧ vs = [y] ∧ H l = some (.lst xs) ∧ xs.length < sizeLine ∧ Q .non (upd H l (.lst (xs ++ [y])))
theorem mt_append : MtM X "list.append" rAppend := by
  intro pins s σ H x vs v us Q I rx rv h
  obtain ⟨l, xs, y, rfl, rfl, hH, hz, q⟩ := h
  cases rx
  obtain ⟨u, rfl, ru⟩ := rv.one
  obtain ⟨z, its, n, r, hl, e⟩ := I.lstM hH
  refine call_meets F.slot_list_append ⟨_, e, rfl⟩ F.entry_list_append (F.args_list_append_2 _ _) (PySem.list_append l its.toArray n u (by rw [List.size_toArray]; omega)) ⟨e, ?_⟩
  refine ⟨.non, _, I.lset (its' := its ++ [u]) hH e (by simp) (r.append (.cons ru .nil)) ?_, rfl, q⟩
  rw [List.length_append, List.length_singleton]
  omega

noncomputable def rExtend : V → List V → Hp → VK → Prop := fun x vs H Q => ∃ l b xs zs, x = .ref l ∧ vs = [.ref b] ∧ H l = some (.lst xs) ∧ H b = some (.lst zs) ∧ xs.length + zs.length ≤ sizeLine ∧ Q .non (upd H l (.lst (xs ++ zs)))
theorem mt_extend : MtM X "list.extend" rExtend := by
  intro pins s σ H x vs v us Q I rx rv h
  obtain ⟨l, b, xs, zs, rfl, rfl, hH, hB, hz, q⟩ := h
  cases rx
  obtain ⟨u, rfl, ru⟩ := rv.one
  cases ru
  obtain ⟨z, its, n, r, hl, e⟩ := I.lstM hH
  obtain ⟨z2, its2, n2, r2, hl2, e2⟩ := I.lstM hB
  have hsz : its.toArray.size + its2.toArray.size ≤ sizeLine := by rw [List.size_toArray, List.size_toArray]; omega
  have hlong : ¬ (!its.toArray.isEmpty && Builtin.List.listTooLong (its.toArray.size + its2.toArray.size)) = true := by
    rw [notLongL hsz, Bool.and_false]
    exact Bool.false_ne_true
  refine call_meets F.slot_list_extend ⟨_, e, rfl⟩ F.entry_list_extend (F.args_list_extend_2 _ _)
    (AutoSeq1.list_extend_list_list_0 l its.toArray n b its2.toArray n2 hlong (by rw [List.size_toArray]; omega) (by omega)) ⟨e, e2, ?_⟩
  refine ⟨.non, _, I.lset (its' := its ++ its2) hH e (by simp) (r.append r2) ?_, rfl, q⟩
  rw [List.length_append]
  omega

/-! ### list + list, list += list, list * int -/
noncomputable def rCat : R2 := fun x y H Q => ∃ l b xs zs, x = .ref l ∧ y = .ref b ∧ H l = some (.lst xs) ∧ H b = some (.lst zs) ∧ xs.length + zs.length ≤ sizeLine ∧ ∀ p, H p = none → Q (.ref p) (upd H p (.lst (xs ++ zs)))
theorem op_cat : OpR X (binaryOp .Add) rCat := by
  intro pins s σ H x y v u Q I rx ry h
  obtain ⟨l, b, xs, zs, rfl, rfl, hH, hB, hz, q⟩ := h
  cases rx
  cases ry
  obtain ⟨z, its, n, r, hl, e⟩ := I.lstM hH
  obtain ⟨z2, its2, n2, r2, hl2, e2⟩ := I.lstM hB
  refine PySem.P.add_list e e2 ?_ (by rw [List.size_toArray, List.size_toArray]; omega)
  have ea : its.toArray ++ its2.toArray = (its ++ its2).toArray := by simp
  rw [ea]
  exact ⟨.ref _, _, I.lnew (t' := s.toks) (r.append r2) (by rw [List.length_append]; omega), rfl, q _ I.fresh⟩
/-! ### del xs[i] -/
end

/-! ### xs[a:b] = ys -/
section
variable {prog : Program} {w : World} {A : Around} {E : Value → Shared → Prop} {s : Shared}
end

section
variable {X : Cx}
end
end L2

namespace Att
open PySem PySem.W PySem.Calls PyProof.Rows

/-! ### the script -/
theorem ints_of_wellAll {P : Params} {h : Heap} : ∀ (ns : List Int) (vs : List Value), WellAll P h vs (ns.map WData.int) → IntsAre vs ns := by
  intro ns
  induction ns with
  | nil =>
    intro vs w
    rw [List.map_nil] at w
    cases w
    exact .nil
  | cons n ns ih =>
    intro vs w
    rw [List.map_cons] at w
    cases w with
    | cons a b =>
      cases a
      exact .cons _ _ (ih _ b)

theorem script_of {l : OpenLaw} {n : Nat} (hn : l.most = some n) {P : Params} {h : Heap} {args : List WData} {vals : List Value}
    (hpre : l.row.toRowW.claim.pre args = true) (hwl : WellAll P h vals args) :
    ∃ a vs ns, vals = [Value.ref a] ∧ args = [WData.list (ns.map WData.int)] ∧ h.get? a = some { cls := .type "list", data := .seq vs.toArray } ∧ IntsAre vs ns ∧ ns.length ≤ n := by
  have hsh : WShape.hasAll [] args [.list .int] = true := (pre_splitW hpre).1
  have hc : l.pre.holds [] { args := args } = true := (pre_splitW hpre).2
  obtain ⟨d, r, rfl, h1, h2⟩ := hasAllW_cons hsh
  obtain rfl := hasAllW_nil h2
  obtain ⟨xs, rfl, h3⟩ := hasW_list h1
  obtain ⟨ns, rfl⟩ := items_int h3
  have hlen : ns.length ≤ n := by
    unfold OpenLaw.pre at hc
    have h4 : (WTm.not (.lt (.lit (.int (n : Int))) (.len (.arg 0)))).holds [] { args := [.list (ns.map .int)] } = true := by
      have h4 := (holds_andW hc).1
      rw [hn] at h4
      exact h4
    have h5 := condW_of h4 (w_not (w_lt w_lit (w_len_list (w_arg rfl))))
    rw [List.length_map] at h5
    refine Nat.le_of_not_lt fun q => ?_
    have q' : (n : Int) < ((ns.length : Nat) : Int) := by omega
    first
      | (rw [decide_eq_true q'] at h5; exact absurd h5 (by decide))
      | (simp at h5; omega)
  cases hwl with
  | cons w1 w2 =>
    cases w2
    cases w1 with
    | list ho hall => exact ⟨_, _, ns, rfl, rfl, ho, ints_of_wellAll ns _ hall, hlen⟩

theorem post_true (l : OpenLaw) (args : List WData) : l.row.toRowW.claim.post args (.bool true) args = true :=
  postW_of (r := l.row.toRowW) (X := (true == true))
    (show WShape.has [] (.bool true) .bool = true by first | rfl | decide | simp [WShape.has, WShape.arms, WShape.armsAll])
    (show (WTm.eq .res (.lit (.bool true))).value [] { args := args, res := some (.bool true), after := args } = some (.bool (true == true)) from w_eq_bool (w_res rfl) w_lit) rfl

/-! ### the attachment: holds_open's last premise (the goal 'hc' behind k_head) from a wpAny of the law's body -/
/-- the same from a codeAny of the CALL (for a layer whose function contracts speak of calls) -/
theorem attach_call {l : OpenLaw} {n : Nat} {q : Program} {loose : List Str} {XP : (Str → Option Value) → Heap → Prop} {YP : World → Heap → Prop} {d : DefRec}
    (hn : l.most = some n) (hdf : d.params.defaults = [])
    (call : ∀ (w : World) (s₀ s₁ : Shared) (mg mb : Str → Option Value) (fa : Addr) (o : Obj) (pm cd doc : Value) (a : Addr) (vs : List Value) (ns : List Int),
      Ground q loose [] XP w s₀ mg mb s₁.heap → YP w s₁.heap →
      s₁.heap.get? fa = some o → o.data = .func (docDef d.name d.params d.body d.scope pm cd doc) → s₁.heap.CodeRec cd d.name → mg d.name = some (.ref fa) →
      s₁.heap.get? a = some { cls := .type "list", data := .seq vs.toArray } → IntsAre vs ns → ns.length ≤ n → s₁.gens = #[] →
      codeAny (model l.prog w) callerA (.call (.ref fa) ⟨[.ref a], []⟩) (fun r s' => r = .ok (.ret (.bool true)) ∧ OldK s₁.heap s'.heap ∧ s'.os = s₁.os ∧ AllBare s'.gens) s₁) :
    WalkO q loose XP YP l.row.toRowW d [] (fun f vs => PySem.call f vs) := by
  intro w s₀ s₁ mg mb G Y fa o pm cd doc dV kV ho hd hcd hD hmg hg args vals as hpre hlay hrd hwl hlo
  obtain rfl : dV = .none := Dflts.none hD hdf
  obtain rfl : kV = .none := Dflts.noKw hD
  obtain ⟨a, vs, ns, rfl, rfl, hobj, hints, hlen⟩ := script_of hn hpre hwl
  refine enter_call (codeAny_mono (call w s₀ s₁ mg mb fa o pm cd doc a vs ns G Y ho (fd_plain hd) hcd hmg hobj hints hlen hg) fun r s' hq => ?_)
  obtain ⟨rfl, h2, h3, h4⟩ := hq
  exact ⟨.inl ⟨.bool true, .bool true, [], rfl, fun _ => rfl, .bool true, post_true l _, fun _ => ⟨List.Pairwise.nil, fun _ hm => (nomatch hm)⟩⟩, h2, h3, h4⟩

/-! ### rules over ANY heap (no ledger) from facts about the written part K: the library's own take a ledger (News) for what they write -/
section
variable {prog : Program} {w : World} {A : Around} {E : Value → Shared → Prop} {s : Shared} {K : Frag}

/-! the whole heap as the ledger: makes every rule that writes through a ledger a rule over any heap -/
end
end Att

namespace L2
open PySem PySem.Spec PyProof.Rows

theorem vals_ints : ∀ {vs : List Value} {ns : List Int}, IntsAre vs ns → Vals (ns.map V.int) vs
  | _, _, .nil => .nil
  | _, _, .cons n t h => .cons ⟨t, rfl⟩ (vals_ints h)

end L2

namespace L2
open PySem PySem.Spec PyProof.Rows

end L2

/- THE LAST THEOREM (shape; LID, My.* are yours):
   My.Adr: a structure of the addresses that your layer names (classes, functions); My.Txt K t: a structure (Prop) of the equations over K;
   My.txt_mk : {K} {implicit addresses ..} (e1 : nsIn K mainGlobals "law" = some (some (.ref f))) (e2 : K.lookup f = some ⟨oc, od, .func (fnOf "law" "law" params body scope dV kV doc pm an cdv ct), sl⟩) (e3 : codeIn K cdv "law" = true) .. : ∃ t, My.Txt K t

set_option maxRecDepth 100000 in
set_option maxHeartbeats 0 in
theorem PySem.Challenge.cw_LID_holds : PySem.Challenge.rw_LID.Holds := by
  w_on; o_law; k_head; (case hw => w_witness2)
  k_fill
  refine L2.walk_of (l := PySem.Challenge.rw_LID) (n := 63) (k := 40) (x := "script") (CX := fun w => ..) (sp := fun _ => My.sp_law) rfl (by decide) rfl ⟨rfl, by decide, by decide⟩ (fun w h Y => PySem.W.kIn_of Y) ?F ?S ?C
  case F =>
    intro w mg fa h KX G hmg
    have T : ∃ t, My.Txt (L2.KOf KX) t := by
      dsimp only [L2.KOf]                          -- K must stand as «<heap const> w.params» for k_is
      refine' My.txt_mk ?e1 ?e2 ?e3 ..
      (case e1 => PySem.W.k_is)                    -- in the order: a name -> its address -> its object -> its parts
      (case e2 => PySem.W.k_is)
      ..
    obtain ⟨t, T⟩ := T
    have e0 := hmg.symm.trans (PySem.W.mg_of KX G T.law)
    cases e0                                       -- fa is the law's own address
    exact ⟨_, fun s u => .of_eq rfl, fun base kb nb => My.law_fn T kb nb⟩     -- if «.of_eq rfl» comes too early: refine' ⟨_, ?b, fun base kb nb => My.law_fn T kb nb⟩; exact fun s u => .of_eq rfl
  case S => exact fun w H a ns hl hO hS => ..
  case C => exact ..
(the tactic k_is has no namespace: write k_is) -/

/-! SHORT WORDS over the layer: a def of the text, its body, what a loop and a test want. -/
namespace L2
open PySem PySem.Spec PyProof.Rows

/-! ### the text by places -/
noncomputable def defArgs (s : Stmt) : Arguments := match s with
  | .FunctionDef _ a _ _ _ _ _ _ _ _ => a
  | _ => { posonlyargs := [], args := [], vararg := none, kwonlyargs := [], kw_defaults := [], kwarg := none, defaults := [] }
noncomputable def defBody (s : Stmt) : List Stmt := match s with
  | .FunctionDef _ _ b _ _ _ _ _ _ _ => b
  | _ => []
noncomputable def defScope (s : Stmt) : Scope := match s with
  | .FunctionDef _ _ _ _ _ _ sc _ _ _ => sc
  | _ => { kind := .function, names := [], isGenerator := false, isCoroutine := false }

/-! ### no exception leaves a def -/
noncomputable abbrev CX0 : CXT := fun _ _ _ _ _ _ => False
noncomputable abbrev E0 : XK := fun _ _ _ => False
theorem pass0 {X : Cx} : Passes CX0 X E0 := fun _ _ _ _ _ _ _ h => h.elim

/-! ### a def (or method) of the text as it stands behind the top -/
structure Fun (K : PySem.W.Frag) (x qual : Str) (st : Stmt) (f : Addr) (fd : FuncData) : Prop where
  ex : ∃ (oc : Value) (od : Option Addr) (kV doc pm : Value) (an : Option Addr) (cdv ct : Value) (osl : Array (Option Value)),
    fd = PySem.W.fnOf x qual (defArgs st) (defBody st) (defScope st) .none kV doc pm an cdv ct ∧ K.lookup f = some ⟨oc, od, .func fd, osl⟩ ∧ PySem.W.codeIn K cdv qual = true
  kp : PySem.W.keepIn K (.ref f) = true
section
variable {P : Program} {w : World} {K : PySem.W.Frag} {mg : Str → Option Value} {base : Heap}
/-- THE RULE for a def: its body as a term of rules, and the reading of that term -/
theorem Fun.ok {x qual : Str} {st : Stmt} {f : Addr} {fd : FuncData} {N ps : List Str} {k : Nat} {sp : Sp} (F : Fun K x qual st f fd) (S : FnScope N ps (defScope st)) (len : ∀ vs H Q E, sp vs H Q E → vs.length = ps.length)
    (hbody : ∀ (cdv : Value) (A : Around) (outer : List Env) (s : Shared) (H : Hp) (vs : List V) (Q : VK) (E : XK), Room k (A.deeper (envOfC qual (defScope st) s.heap.objs.size f cdv)) → sp vs H Q E →
      ∃ t, PSs (cxOf CX0 P w K mg base N qual (defScope st) f cdv A outer s H E).nox (defBody st) t ∧ t { nx := fun _ H' => Q .non H', rt := Q } (start N vs) H) : FnOk P w K mg base CX0 (k + 1) f fd ps sp := by
  obtain ⟨oc, od, kV, doc, pm, an, cdv, ct, osl, rfl, lk, hcd⟩ := F.ex
  refine fn_of lk hcd S len fun A outer s H vs Q E hr hsp => ?_
  obtain ⟨t, h, q⟩ := hbody cdv A outer s H vs Q E hr hsp
  exact ⟨t, h.nox, q⟩
/-- how its arguments bind (no defaults): h is «fun _ _ _ _ _ _ us hl => match us, hl with | [_, _], _ => rfl», one _ a parameter -/
theorem Fun.binds {x qual : Str} {st : Stmt} {f : Addr} {fd : FuncData} {ps : List Str} (F : Fun K x qual st f fd)
    (h : ∀ (kV doc pm : Value) (an : Option Addr) (cdv ct : Value) (us : List Value), us.length = ps.length → bindArgs (PySem.W.fnOf x qual (defArgs st) (defBody st) (defScope st) .none kV doc pm an cdv ct) ⟨us, []⟩ = pure (ps.zip us)) : Binds K fd ps [] := by
  obtain ⟨oc, od, kV, doc, pm, an, cdv, ct, osl, rfl, lk, hcd⟩ := F.ex
  exact .all (h kV doc pm an cdv ct)
theorem fun_mk {x qual : Str} {st : Stmt} {f : Addr} {oc : Value} {od an : Option Addr} {osl : Array (Option Value)} {kV doc pm cdv ct : Value} (l : K.lookup f = some ⟨oc, od, .func (PySem.W.fnOf x qual (defArgs st) (defBody st) (defScope st) .none kV doc pm an cdv ct), osl⟩)
    (c : PySem.W.codeIn K cdv qual = true) (k : PySem.W.keepIn K (.ref f) = true) : Fun K x qual st f (PySem.W.fnOf x qual (defArgs st) (defBody st) (defScope st) .none kV doc pm an cdv ct) := ⟨⟨oc, od, kV, doc, pm, an, cdv, ct, osl, rfl, l, c⟩, k⟩
end
theorem small1000 {n : Nat} (h : n ≤ 1000) : n < sizeLine := Nat.lt_of_le_of_lt h (by decide)

/-! ### expressions in short: the name that stands in the i-th slot -/
section
variable {X : Cx}
theorem pv (i : Nat) {x : Str} {pos : Pos} (hN : X.N[i]? = some x := by rfl) (hv : Vis X.env.scope x := by first | exact Or.inl rfl | exact Or.inr (Or.inl rfl) | exact Or.inr (Or.inr rfl)) (hd : (x == ("__debug__" : Str)) = false := by decide)
    (hcd : (x == ("__classdict__" : Str)) = false := by decide) : PE X (.Name x pos) (tVar i) := pe_var hN hv hd hcd
end

/-! ### tests -/
theorem iteF {A B : Prop} (h : B) : if false = true then A else B := by
  rw [if_neg Bool.false_ne_true]
  exact h
theorem iteT {A B : Prop} (h : A) : if true = true then A else B := by
  rw [if_pos rfl]
  exact h
theorem ite2 {c A B : Prop} [Decidable c] (h1 : c → A) (h2 : ¬ c → B) : if c then A else B := by
  by_cases h : c
  · rw [if_pos h]
    exact h1 h
  · rw [if_neg h]
    exact h2 h
/-! ### heaps -/
/-- all that was tracked is as it was -/
noncomputable def Same (H H' : Hp) : Prop := ∀ b o, H b = some o → H' b = some o
theorem Same.refl (H : Hp) : Same H H := fun _ _ h => h
theorem Same.trans {H H1 H2 : Hp} (a : Same H H1) (b : Same H1 H2) : Same H H2 := fun c o h => b c o (a c o h)
theorem Same.free {H H' : Hp} (e : Same H H') {l : Addr} (h : H' l = Option.none) : H l = Option.none := by
  cases q : H l with
  | none => rfl
  | some o =>
    rw [e l o q] at h
    cases h
theorem Same.seq {K : PySem.W.Frag} {H H' : Hp} {a : Addr} {xs : List V} (e : Same H H') (h : SqL K H a xs) : SqL K H' a xs := by
  rcases h with (h | ⟨o, h⟩) | h
  · exact .inl (.inl (e _ _ h))
  · exact .inl (.inr ⟨o, e _ _ h⟩)
  · exact .inr h

end L2

set_option maxHeartbeats 4000000
namespace L2
open PySem PySem.Spec PyProof.Rows

/-! ### the cells that a comprehension's block is handed -/
noncomputable def clF (cells : List (Str × Addr)) : List (Str × NameKind) → List (Str × Addr) → List (Str × Addr)
  | [], cs => cs
  | (n, k) :: r, cs => clF cells r (if k == .free then (match cells.lookup n with | some c => (n, c) :: cs | none => cs) else cs)

theorem clF_mem {cells : List (Str × Addr)} : ∀ (names : List (Str × NameKind)) (cs : List (Str × Addr)) (n : Str) (c : Addr), (n, c) ∈ clF cells names cs → (n, c) ∈ cs ∨ (cells.lookup n = some c ∧ (n, NameKind.free) ∈ names)
  | [], cs, n, c, h => .inl h
  | (m, k) :: r, cs, n, c, h => by
    rcases clF_mem r _ n c h with q | ⟨q, z⟩
    · by_cases hk : (k == NameKind.free) = true
      · rw [if_pos hk] at q
        have hk' : k = .free := by simpa using hk
        cases e : cells.lookup m with
        | none => rw [e] at q; exact .inl q
        | some d =>
          rw [e] at q
          rcases List.mem_cons.mp q with z | z
          · cases z; exact .inr ⟨e, by rw [hk']; exact List.mem_cons_self⟩
          · exact .inl z
      · rw [if_neg hk] at q; exact .inl q
    · exact .inr ⟨q, List.mem_cons_of_mem _ z⟩
theorem clF_sub {cells : List (Str × Addr)} : ∀ (names : List (Str × NameKind)) (cs : List (Str × Addr)), ∀ p ∈ cs, p ∈ clF cells names cs
  | [], cs, p, h => h
  | (m, k) :: r, cs, p, h => by
    refine clF_sub r _ p ?_
    by_cases hk : (k == NameKind.free) = true
    · rw [if_pos hk]
      cases cells.lookup m with
      | none => exact h
      | some d => exact List.mem_cons_of_mem _ h
    · rw [if_neg hk]; exact h
theorem clF_has {cells : List (Str × Addr)} : ∀ (names : List (Str × NameKind)) (cs : List (Str × Addr)) (n : Str) (c : Addr), (n, NameKind.free) ∈ names → cells.lookup n = some c → (n, c) ∈ clF cells names cs
  | [], _, _, _, h, _ => nomatch h
  | (m, k) :: r, cs, n, c, h, e => by
    rcases List.mem_cons.mp h with z | z
    · cases z
      refine clF_sub r _ _ ?_
      rw [if_pos (by rfl), e]
      exact List.mem_cons_self
    · exact clF_has r _ n c z e
theorem lookup_isSome_of_mem {β : Type} : ∀ {l : List (Str × β)} {n : Str} {c : β}, (n, c) ∈ l → ∃ d, l.lookup n = some d
  | (m, d) :: r, n, c, h => by
    cases e : n == m with
    | true => exact ⟨d, by simp [List.lookup_cons, e]⟩
    | false =>
      have e' : n ≠ m := by simpa using e
      rcases List.mem_cons.mp h with z | z
      · cases z; exact absurd rfl e'
      · obtain ⟨q, hq⟩ := lookup_isSome_of_mem z
        exact ⟨q, by simp [List.lookup_cons, e, hq]⟩
theorem clF_lookup {cells : List (Str × Addr)} {names : List (Str × NameKind)} {n : Str} {c : Addr} (h : (clF cells names []).lookup n = some c) : cells.lookup n = some c ∧ (n, NameKind.free) ∈ names := by
  rcases clF_mem names [] n c (PySem.mem_of_lookup h) with z | z
  · cases z
  · exact z
theorem closure_eq {env : Env} {scope : Scope} (hf : ∀ n, (n, NameKind.free) ∈ scope.names → ∃ c, env.cells.lookup n = some c) : closureFor scope env = pure (clF env.cells scope.names []) := by
  have go : ∀ (l : List (Str × NameKind)) (cs : List (Str × Addr)), (∀ n, (n, NameKind.free) ∈ l → ∃ c, env.cells.lookup n = some c) →
      (forIn l cs (fun x r => match x with | (name, kind) => if (kind == NameKind.free) = true then do
        let y ← cellOf env name
        pure (ForInStep.yield ((name, y) :: r)) else pure (ForInStep.yield r)) : Sem (List (Str × Addr))) = pure (clF env.cells l cs) := by
    intro l
    induction l with
    | nil => intro cs _; rfl
    | cons x r ih =>
      intro cs h
      obtain ⟨n, k⟩ := x
      rw [List.forIn_cons]
      by_cases hk : (k == NameKind.free) = true
      · have hk' : k = .free := by simpa using hk
        obtain ⟨c, e⟩ := h n (by rw [hk']; exact List.mem_cons_self)
        have ec : cellOf env n = pure c := by unfold cellOf; rw [e]
        simp only [hk, if_true, ec, pure_bind]
        rw [ih _ fun m hm => h m (List.mem_cons_of_mem _ hm)]
        show _ = pure (clF env.cells r _)
        rw [if_pos hk, e]
      · have hk' : (k == NameKind.free) = false := by simpa using hk
        have e1 := ih cs fun m hm => h m (List.mem_cons_of_mem _ hm)
        show (((if (k == NameKind.free) = true then _ else pure (ForInStep.yield cs)) : Sem _) >>= _) = _
        rw [if_neg hk, pure_bind]
        refine Eq.trans e1 ?_
        show _ = pure (clF env.cells r _)
        rw [if_neg hk]
  unfold closureFor
  have := go scope.names [] hf
  rw [bind_pure]
  exact this
end L2

namespace L2
open PySem PySem.Spec PyProof.Rows

/-- a comprehension's own scope against the block around it -/
structure CScope (X : Cx) (xs : List Str) (sc : Scope) : Prop where
  kind : sc.kind = .function
  nocell : ∀ y ∈ sc.names, y.2 ≠ .cell
  names : ∀ y ∈ sc.names, y.2 = .local → sc.names.lookup y.1 = some .local
  own : ∀ x ∈ xs, sc.names.lookup x = some .local
  sep : ∀ y ∈ X.N, sc.names.lookup y ≠ some .local
  frees : ∀ y ∈ sc.names, y.2 = .free → X.env.kindOf y.1 = some .cell ∨ X.env.kindOf y.1 = some .free
  nd : (xs ++ X.N).Nodup

/-- the context of a comprehension's block -/
noncomputable def cxC (X : Cx) (xs : List Str) (sc : Scope) (ex : List Addr) (s : Shared) (H : Hp) : Cx where
  prog := X.prog
  w := X.w
  K := X.K
  mg := X.mg
  base := X.base
  A := X.A
  N := xs ++ X.N
  s₀ := s
  H₀ := H
  env := compEnvC sc (clF X.env.cells sc.names []) s.heap.objs.size X.env
  outer := X.stack
  stack := X.stack
  ex := ex
  fn := fun _ => false
  calm := X.calm
  pn := []
  xe := fun _ _ => False

theorem lookup_relabel (env : Env) (x : Str) : ∀ names : List (Str × NameKind),
    (names.map fun (n, k) => if (k == NameKind.free && env.scope.kind == .function && env.kindOf n == some .cell) then (n, NameKind.cell) else (n, k)).lookup x =
      (names.lookup x).map fun k => if (k == NameKind.free && env.scope.kind == .function && env.kindOf x == some .cell) then NameKind.cell else k
  | [] => rfl
  | (n, k) :: r => by
    have ih := lookup_relabel env x r
    show List.lookup x ((if (k == NameKind.free && env.scope.kind == .function && env.kindOf n == some .cell) = true then (n, NameKind.cell) else (n, k)) :: _) = _
    cases hx : x == n with
    | true =>
      have e : x = n := by simpa using hx
      subst e
      by_cases hc : (k == NameKind.free && env.scope.kind == .function && env.kindOf x == some .cell) = true
      · rw [if_pos hc]
        simp only [List.lookup_cons, hx, Option.map_some]
        rw [if_pos hc]
      · rw [if_neg hc]
        simp only [List.lookup_cons, hx, Option.map_some]
        rw [if_neg hc]
    | false =>
      by_cases hc : (k == NameKind.free && env.scope.kind == .function && env.kindOf n == some .cell) = true
      · rw [if_pos hc]; simp only [List.lookup_cons, hx]; exact ih
      · rw [if_neg hc]; simp only [List.lookup_cons, hx]; exact ih

/-- a name of the block around, seen in the comprehension, is a free one -/
theorem vis_relabel {sc : Scope} {env : Env} {x : Str} (h : Vis (relabel sc env) x) (hl : sc.names.lookup x ≠ some .local) (hc : ∀ y ∈ sc.names, y.2 ≠ .cell) :
    (x, NameKind.free) ∈ sc.names ∧ ((relabel sc env).names.lookup x = some .cell ∨ (relabel sc env).names.lookup x = some .free) := by
  have e : (relabel sc env).names.lookup x = _ := lookup_relabel env x sc.names
  unfold Vis at h
  rw [e] at h
  cases k : sc.names.lookup x with
  | none => rw [k] at h; simp at h
  | some v =>
    have mem := PySem.mem_of_lookup k
    have nl : v ≠ .local := fun z => hl (by rw [k, z])
    have ncl : v ≠ .cell := fun z => hc _ mem z
    rw [k] at h
    rw [e, k]
    simp only [Option.map_some] at h ⊢
    by_cases hv : v = .free
    · subst hv
      refine ⟨mem, ?_⟩
      split
      · exact .inl rfl
      · exact .inr rfl
    · have : (v == NameKind.free) = false := by simpa using hv
      simp only [this, Bool.false_and] at h
      rcases h with h | h | h
      · exact absurd (Option.some.inj h) nl
      · exact absurd (Option.some.inj h) ncl
      · exact absurd (Option.some.inj h) hv

section
variable {X : Cx} {pins : List (Addr × Obj)} {σ : St} {H : Hp} {s : Shared} {xs : List Str} {sc : Scope} {ex : List Addr}
theorem CScope.cells (S : CScope X xs sc) (ok : X.Ok) : ∀ n, (n, NameKind.free) ∈ sc.names → ∃ c, X.env.cells.lookup n = some c := fun n h => ok.has n (S.frees _ h rfl)
theorem cxC_ok (S : CScope X xs sc) (I : Inv X pins σ H s) (he : ∀ b ∈ ex, b < s.heap.objs.size ∧ b ∉ frs X.stack ∧ (∀ x c, X.env.cells.lookup x = some c → c ≠ b) ∧ X.base.get? b = none) : (cxC X xs sc ex s H).Ok := by
  refine ⟨I.ok.mod, S.kind, I.ok.glob, I.ok.blt, Nat.le_refl _, fun x y c h1 h2 => ?_, fun x hx => ?_, fun _ _ h => (by cases h), I.ok.hd, I.ok.frames, .inl rfl, fun b hb => ⟨Nat.ne_of_lt (he b hb).1, fun x c h => (he b hb).2.2.1 x c (clF_lookup h).1⟩, fun b o e => ?_, ?_, fun b o e hb => ?_, fun b hb => (he b hb).2.1, I.stack, I.stkFree⟩
  · exact I.ok.inj x y c (clF_lookup h1).1 (clF_lookup h2).1
  · have hv : (relabel sc X.env).names.lookup x = some .cell ∨ (relabel sc X.env).names.lookup x = some .free := hx
    have q : (x, NameKind.free) ∈ sc.names := by
      have e : (relabel sc X.env).names.lookup x = _ := lookup_relabel X.env x sc.names
      rw [e] at hv
      cases k : sc.names.lookup x with
      | none => rw [k] at hv; simp at hv
      | some v =>
        have mem := PySem.mem_of_lookup k
        rw [k] at hv
        simp only [Option.map_some] at hv
        by_cases hvf : v = .free
        · rw [hvf] at mem; exact mem
        · have : (v == NameKind.free) = false := by simpa using hvf
          simp only [this, Bool.false_and] at hv
          rcases hv with h | h
          · exact absurd (Option.some.inj h) (S.nocell _ mem)
          · exact absurd (Option.some.inj h) hvf
    obtain ⟨c, e⟩ := S.cells I.ok x q
    exact lookup_isSome_of_mem (clF_has sc.names [] x c q e)
  · exact I.bs b o e
  · exact Nat.le_trans I.ok.bsz I.sz
  · have q : X.base.get? b = none := (he b hb).2.2.2
    have e' : X.base.get? b = some o := e
    rw [q] at e'; cases e'

/-- the block's first state -/
theorem inv_comp {h₁ : Heap} {tk : Nat} (S : CScope X xs sc) (I : Inv X pins σ H s) (he : ∀ b ∈ ex, b < s.heap.objs.size ∧ b ∉ frs X.stack ∧ (∀ x c, X.env.cells.lookup x = some c → c ≠ b) ∧ X.base.get? b = none)
    (hn : h₁.Ns s.heap.objs.size (fun _ => none)) (hk : ∀ b o, s.heap.get? b = some o → h₁.get? b = some o) :
    Inv (cxC X xs sc ex s H) [] (List.replicate xs.length none ++ σ) H { s with heap := h₁, toks := tk } := by
  have I1 : Inv X pins σ H { s with heap := h₁, toks := tk } := I.kept hk
  refine ⟨cxC_ok S I he, rfl, I.bare, Un.kept hk, ⟨_, hn, fun i x v h1 h2 h3 => ?_⟩, fun x c h => I1.cell x c (clF_lookup h).1, I.hok.fresh (Nat.le_refl _), fun x c h => I.freeC x c (clF_lookup h).1, fun p hp => absurd (show p ∈ ([] : List (Addr × Obj)) from hp) (by simp), I.hok.kept hk, ?_⟩
  · have h1' : (xs ++ X.N)[i]? = some x := h1
    by_cases hi : i < xs.length
    · rw [List.getElem?_append_left (by simpa using hi), List.getElem?_replicate, if_pos hi] at h2
      cases h2
    · have hi' : xs.length ≤ i := Nat.le_of_not_lt hi
      rw [List.getElem?_append_right (by simpa using hi')] at h2
      rw [List.getElem?_append_right hi'] at h1'
      rw [List.length_replicate] at h2
      have hm : x ∈ X.N := List.mem_of_getElem? h1'
      obtain ⟨hf, hkd⟩ := vis_relabel h3 (S.sep x hm) S.nocell
      have hko := S.frees _ hf rfl
      obtain ⟨m, _, hl⟩ := I1.loc
      obtain ⟨u, r, l⟩ := hl (i - xs.length) x v h1' h2 (by
        rcases hko with z | z
        · exact .inr (.inl z)
        · exact .inr (.inr z))
      refine ⟨u, r, .inr ⟨hkd, ?_⟩⟩
      rcases l with ⟨z, _⟩ | ⟨_, c, ec, hc⟩
      · rcases hko with q | q <;> (rw [q] at z; cases z)
      · obtain ⟨d, ed⟩ := lookup_isSome_of_mem (clF_has sc.names [] x c hf ec)
        have : c = d := by
          have := (clF_lookup ed).1
          rw [ec] at this
          exact Option.some.inj this
        subst this
        exact ⟨c, ed, hc⟩
  · show (List.replicate xs.length none ++ σ).length = (xs ++ X.N).length
    rw [List.length_append, List.length_append, List.length_replicate, I.len]
end
end L2

namespace L2
open PySem PySem.Spec PyProof.Rows

section
variable {prog : Program} {w : World} {A : Around} {R : Result → Shared → Prop} {s : Shared}
/-- a comprehension's loop, no exception leaving it -/
theorem compLoop_of {elt target iter : Expr} {ifs : List Expr} {scope : Scope} {pos : Pos} {it acc : Value} {env : Env} (I : Nat → Shared → Prop)
    (turn : ∀ n s, I n s → wpAny (model prog w) A (pyNext it) (fun r s₁ => match r with
      | none => R (.ok .next) s₁
      | some v => wpAny (model prog w) A (letOwnedTupleGo target it v) (fun _ s₁' => wpAny (model prog w) A (assign target env v) (fun _ s₂ =>
          wpAny (model prog w) A (forIn ifs true fun c r => if r = true then do let ok ← isTrue c env (eval c env); pure (ForInStep.yield ok) else pure (ForInStep.yield r)) (fun ok s₃ =>
            if ok = true then wpAny (model prog w) A (eval elt env) (fun x s₄ =>
              wpAny (model prog w) A (call (.builtin "list.append") [acc, x]) (fun _ s₅ => ∃ m, m < n ∧ I m s₅) (fun _ _ => False) s₄) (fun _ _ => False) s₃
            else ∃ m, m < n ∧ I m s₃) (fun _ _ => False) s₂) (fun _ _ => False) s₁') (fun _ _ => False) s₁) (fun _ _ => False) s)
    (n : Nat) (h : I n s) :
    codeAny (model prog w) A (.compLoop (.ListComp elt [⟨target, iter, ifs, 0⟩] scope pos) 0 it acc env) R s := by
  refine codeAny_loop rfl I (fun n s hI => ?_) n h
  show wpAny _ A ((compTurn (.ListComp elt [⟨target, iter, ifs, 0⟩] scope pos) 0 it acc env).onRaise (fun x => do noteFrame x env; theTreesLotGoes x)) _ _ s
  refine wpAny_noted ?_
  rw [compTurn_list]
  refine wpAny_bind (wpAny_standAt (wpAny_bind (wpAny_mono (turn n s hI) (fun r s₁ h₁ => ?_) fun _ _ h' => h'.elim)))
  cases r with
  | none => exact wpAny_pure h₁
  | some v =>
    refine wpAny_bind (wpAny_mono h₁ (fun _ s₁' h₁' => ?_) fun _ _ h' => h'.elim)
    refine wpAny_bind (wpAny_mono h₁' (fun _ s₂ h₂ => wpAny_bind (wpAny_mono h₂ (fun ok s₃ h₃ => ?_) fun _ _ h' => h'.elim)) fun _ _ h' => h'.elim)
    cases ok with
    | false => exact wpAny_pure ⟨rfl, h₃⟩
    | true =>
      exact wpAny_bind (wpAny_bind (wpAny_mono h₃ (fun x s₄ h₄ => wpAny_bind (wpAny_mono h₄ (fun _ s₅ h₅ => wpAny_pure (wpAny_pure ⟨rfl, h₅⟩)) fun _ _ h' => h'.elim)) fun _ _ h' => h'.elim))
end

/-- the tests of a clause -/
noncomputable def PTs (X : Cx) (ifs : List Expr) (t : TT) : Prop :=
  ∀ (pins : List (Addr × Obj)) (s : Shared) (σ : St) (H : Hp) (Q : Bool → Hp → Prop), Inv X pins σ H s → t σ H Q →
    wpAny (model X.prog X.w) X.A (forIn ifs true fun c r => if r = true then do let ok ← isTrue c X.env (eval c X.env); pure (ForInStep.yield ok) else pure (ForInStep.yield r)) (TP X pins σ Q) X.xe s
noncomputable def tYes : TT := fun _ H Q => Q true H
theorem pts_nil {X : Cx} : PTs X [] tYes := fun _ _ _ H _ I h => wpAny_tests_nil ⟨H, I, h⟩
theorem pts_one {X : Cx} {c : Expr} {t : TT} (h : PT X c t) : PTs X [c] t := fun pins s σ H Q I q => wpAny_tests_one (h pins s σ H Q I q)

section
variable {X : Cx} {pins : List (Addr × Obj)} {σ : St} {H : Hp} {s2 : Shared} {tg iter elt : Expr} {ifs : List Expr} {sc : Scope} {pos : Pos} {xs : List Str} {g : TG} {tc : TT} {te : TE} {J : It} {fp : List Addr} {it : Addr} {tn : Nat → Heap → Prop}
/-- a list object that stands untracked is taken into the tracked ones -/
theorem HOk.adopt {P : Program} {w : World} {H : Hp} {h : Heap} {a : Addr} {xs : List V} {its : List Value} {n : Nat} (x : HOk P w H h) (hn : H a = none) (hz : xs.length ≤ sizeLine) (r : Vals xs its) (e : h.get? a = some { cls := .type "list", data := .seq its.toArray n }) :
    HOk P w (upd H a (.lst xs)) h := fun b u q => by
  by_cases hb : b = a
  · subst hb; rw [upd_same] at q; cases q; exact ⟨hz, its, n, r, e⟩
  · rw [upd_ne hb] at q
    exact (x b u q).stay (fun c v _ q => q) (fun c q => by rw [upd_ne (ne_of_none q hn)]; exact q) fun c xs q => by rw [upd_ne (ne_of_none q hn)]; exact q

theorem comp_core {E : Value → Shared → Prop} {RR : Value → Addr → Result → Shared → Prop} (S : CScope X xs sc) (hcalm : X.calm = true)
    (hg : ∀ ex s3 H3, PG (cxC X xs sc ex s3 H3) tg g) (ht : ∀ ex s3 H3, PTs (cxC X xs sc ex s3 H3) ifs tc) (he : ∀ ex s3 H3, PE (cxC X xs sc ex s3 H3) elt te)
    (I : Inv X pins σ H s2) (T : Turn X.prog X.w X.K tg J fp it tn) (st : tn 0 s2.heap) (f2 : ∀ b ∈ fp, FpOk X pins H b)
    (W : Nat → Nat → List V → Hp → Prop) (w0 : ∃ m, W 0 m [] H) (F : List V → Hp → Prop)
    (turn : ∀ i m acc H, W i m acc H → (J.stop i H ∧ acc.length ≤ sizeLine ∧ F acc H) ∨
      (J.go i H ∧ acc.length < sizeLine ∧ ∃ N : List V → Hp → Prop, (∀ acc' H', N acc' H' → ∃ m', m' < m ∧ W (i + 1) m' acc' H') ∧ ∀ x H', J.yld i H x H' → g x (List.replicate xs.length none ++ σ) H' fun σ2 H2 => σ2.drop xs.length = σ ∧ tc σ2 H2 fun c H3 =>
        if c = true then te σ2 H3 fun y H4 => N (acc ++ [y]) H4 else N acc H3))
    (fin : ∀ D C s' acc H', (∃ m, s'.heap.Ns C m) → FpOk X pins (upd H' D (.lst acc)) C → F acc H' → H' D = none → Inv X pins σ (upd H' D (.lst acc)) s' → RR (.ref D) C (.ok .next) s') :
    wpAny (model X.prog X.w) X.A (newList []) (fun acc s3 => wpAny (model X.prog X.w) X.A (newFunctionEnv sc X.env.globals (clF X.env.cells sc.names []) [] X.env.qual none .none (some X.env)) (fun cenv s4 =>
      codeAny (model X.prog X.w) X.A (.compStart (.ListComp elt [⟨tg, iter, ifs, 0⟩] sc pos) 0 (.ref it) acc { cenv with scope := relabel sc X.env }) (RR acc cenv.locals) s4) E s3) E s2 := by
  refine wpAny_newObj_type (wpAny_newFunctionEnv S.nocell (by intro y hy; simp at hy) (fun h₁ hns₁ hsb₁ => ?_) S.kind)
  dsimp only at hns₁ hsb₁ ⊢
  generalize hH3 : s2.heap.push { cls := .type "list", dict := none, data := .seq ([] : List Value).toArray } = H3 at hns₁ hsb₁ ⊢
  have hC : H3.objs.size = s2.heap.objs.size + 1 := by rw [← hH3, Heap.size_push]
  have hDC : s2.heap.objs.size ≠ H3.objs.size := by rw [hC]; exact Nat.ne_of_lt (Nat.lt_succ_self _)
  have old3 : ∀ b o, s2.heap.get? b = some o → H3.get? b = some o := fun b o e => hH3 ▸ Heap.get?_push_of_some _ e
  have k1 : ∀ b o, H3.get? b = some o → h₁.get? b = some o := fun b o e => hsb₁.extBut b o (Nat.ne_of_lt (Heap.lt_size e)) (Heap.get?_push_of_some _ e)
  have I3 : Inv X pins σ H { s2 with heap := H3 } := I.kept old3
  have fpLt : ∀ b ∈ fp, b < s2.heap.objs.size := fun b hb => by
    obtain ⟨o, e, _⟩ := T.obj _ _ st b hb
    exact Heap.lt_size e
  have hnofr : ∀ b, s2.heap.objs.size ≤ b → b ∉ frs X.stack := fun b hb z => by
    rcases List.mem_cons.mp (I.stkSub b z) with q | q
    · exact absurd (Nat.lt_of_lt_of_le I.lt hb) (by rw [q]; exact Nat.lt_irrefl _)
    · exact I.nofs hb q
  have hnocell : ∀ b, s2.heap.objs.size ≤ b → ∀ x c, X.env.cells.lookup x = some c → c ≠ b := fun b hb x c e z => by
    obtain ⟨v, q⟩ := I.cell x c e
    exact absurd (Nat.lt_of_lt_of_le q.lt (by rw [z]; exact hb)) (Nat.lt_irrefl _)
  have hnobase : ∀ b, s2.heap.objs.size ≤ b → X.base.get? b = none := fun b hb => Heap.get?_none_of_le (Nat.le_trans (Nat.le_trans I.ok.bsz I.sz) hb)
  have fpfr : ∀ b ∈ fp, b ∉ frs X.stack := fun b hb z => by
    rcases List.mem_cons.mp (I.stkSub b z) with q | q
    · exact (f2 b hb).2.1 q
    · exact (f2 b hb).2.2.1 q
  have fpbase : ∀ b ∈ fp, X.base.get? b = none := fun b hb => by
    rcases (f2 b hb).2.2.2.1 with z | z
    · cases e : X.base.get? b with
      | none => rfl
      | some o => exact absurd z (I.ok.noex b o e)
    · exact Heap.get?_none_of_le (Nat.le_trans I.ok.bsz z)
  have hex : ∀ b ∈ (s2.heap.objs.size :: fp), b < H3.objs.size ∧ b ∉ frs X.stack ∧ (∀ x c, X.env.cells.lookup x = some c → c ≠ b) ∧ X.base.get? b = none := fun b hb => by
    rcases List.mem_cons.mp hb with z | z
    · subst z
      exact ⟨by rw [hC]; exact Nat.lt_succ_self _, hnofr _ (Nat.le_refl _), hnocell _ (Nat.le_refl _), hnobase _ (Nat.le_refl _)⟩
    · exact ⟨by rw [hC]; exact Nat.lt_succ_of_lt (fpLt b z), fpfr b z, (f2 b z).2.2.2.2.1, fpbase b z⟩
  have I4 := inv_comp (ex := s2.heap.objs.size :: fp) (tk := s2.toks + ([] : List (Str × Value)).length) S I3 hex hns₁ k1
  generalize hX' : cxC X xs sc (s2.heap.objs.size :: fp) { s2 with heap := H3 } H = X' at I4
  have hDn : H s2.heap.objs.size = none := I.hok.fresh (Nat.le_refl _)
  have hDobj : h₁.get? s2.heap.objs.size = some { cls := .type "list", data := .seq (([] : List Value)).toArray 0 } := k1 _ _ (hH3 ▸ Heap.get?_push_size _ rfl)
  have st1 : tn 0 h₁ := T.keep _ _ _ st fun b _ o e => k1 b o (old3 b o e)
  obtain ⟨m0, w0⟩ := w0
  -- the block's facts about D and the iterator, whatever the state
  have eXex : X'.ex = s2.heap.objs.size :: fp := by rw [← hX']; rfl
  have eXloc : X'.env.locals = H3.objs.size := by rw [← hX']; rfl
  have eXfs : X'.fs = frs X.stack := by rw [← hX']; rfl
  have eXcl : X'.env.cells = clF X.env.cells sc.names [] := by rw [← hX']; rfl
  have eXpn : X'.pn = [] := by rw [← hX']; rfl
  have eXm : X'.prog = X.prog ∧ X'.w = X.w ∧ X'.K = X.K ∧ X'.calm = true ∧ X'.A = X.A ∧ X'.xe = fun _ _ => False := by rw [← hX']; exact ⟨rfl, rfl, rfl, hcalm, rfl, rfl⟩
  obtain ⟨eP, ew, eK, ec, eA, exe⟩ := eXm
  have envE : X'.env = { newEnv sc H3.objs.size X.env.globals (clF X.env.cells sc.names []) X.env.qual none .none (some X.env) builtinsNs with scope := relabel sc X.env } := by rw [← hX']; rfl
  have hg' : PG X' tg g := hX' ▸ hg _ _ _
  have ht' : PTs X' ifs tc := hX' ▸ ht _ _ _
  have he' : PE X' elt te := hX' ▸ he _ _ _
  have hs0 : X'.s₀.heap = H3 := by rw [← hX']; rfl
  have hH0 : X'.H₀ = H := by rw [← hX']; rfl
  have hos : X'.s₀.os = s2.os := by rw [← hX']; rfl
  have loop : ∀ s₃ : Shared, s₃ = { s2 with heap := h₁, toks := s2.toks + ([] : List (Str × Value)).length } →
      codeAny (model X.prog X.w) X.A (.compLoop (.ListComp elt [⟨tg, iter, ifs, 0⟩] sc pos) 0 (.ref it) (.ref s2.heap.objs.size) X'.env) (RR (.ref s2.heap.objs.size) H3.objs.size) s₃ := by
    rintro s₃ rfl
    refine compLoop_of (fun n s' => ∃ i acc its k H', Inv X' [] (List.replicate xs.length none ++ σ) H' s' ∧ tn i s'.heap ∧ (∀ b ∈ fp, H' b = none) ∧ H' s2.heap.objs.size = none ∧ Vals acc its ∧
      s'.heap.get? s2.heap.objs.size = some { cls := .type "list", data := .seq its.toArray k } ∧ W i n acc H') ?_ m0
      ⟨0, [], [], 0, H, I4, st1, fun b hb => (f2 b hb).1, hDn, .nil, hDobj, w0⟩
    rintro n s' ⟨i, acc, its, k, H', I', st', fr', hD', rv, hobj, w'⟩
    have fpok : ∀ {o : Obj} {H'' : Hp}, (∀ b ∈ fp, H'' b = none) → ∀ b ∈ fp, FpOk X' [(s2.heap.objs.size, o)] H'' b := fun {o H''} hn b hb => by
      refine ⟨hn b hb, by rw [eXloc, hC]; exact Nat.ne_of_lt (Nat.lt_succ_of_lt (fpLt b hb)), by rw [eXfs]; exact fpfr b hb, .inl (by rw [eXex]; exact List.mem_cons_of_mem _ hb), fun x c e => ?_, fun p hp => ?_⟩
      · rw [eXcl] at e
        exact (f2 b hb).2.2.2.2.1 x c (clF_lookup e).1
      · rw [eXpn] at hp
        have : p = (s2.heap.objs.size, o) := by simpa using hp
        rw [this]
        exact Nat.ne_of_gt (fpLt b hb)
    have pinD : ∀ {H'' : Hp} {s'' : Shared} {σ'' : St} {o : Obj}, Inv X' [] σ'' H'' s'' → s''.heap.get? s2.heap.objs.size = some o → (∀ v, o.data ≠ .cell v) → H'' s2.heap.objs.size = none → Inv X' [(s2.heap.objs.size, o)] σ'' H'' s'' := fun {H'' s'' σ'' o} J e d hn =>
      J.pins_of fun p hp => by
        have : p = (s2.heap.objs.size, o) := by simpa using hp
        rw [this]
        exact ⟨e, hn, by rw [eXloc]; exact hDC, by rw [eXfs]; exact hnofr _ (Nat.le_refl _), d⟩
    have J := pinD I' hobj (fun v => by intro z; cases z) hD'
    rw [← eP, ← ew, ← eA]
    rcases turn i n acc H' w' with ⟨stop, hz, hF⟩ | ⟨go, hz, N, hN, step⟩
    · have q1 : wpAny (model X'.prog X'.w) X'.A (pyNext (.ref it)) (fun r s1 => r = none ∧ Inv X' [(s2.heap.objs.size, { cls := .type "list", data := .seq its.toArray k })] (List.replicate xs.length none ++ σ) H' s1) (fun _ _ => False) s' := by
        have := T.done X' eP ew eK ec i _ s' _ H' (fun _ _ => False) J (fpok fr') st' stop
        rw [eP, ew]; exact this
      refine thn q1 fun r s1 h1 => ?_
      obtain ⟨hr, J1⟩ := h1
      subst hr
      have e1 := J1.pin (s2.heap.objs.size, { cls := .type "list", data := .seq its.toArray k }) (List.mem_append_right _ List.mem_cons_self)
      -- back to the block around
      have un : Un (frs X.stack) (s2.heap.objs.size :: fp) H H' H3 s1.heap := by
        have := J1.base
        rw [eXfs, eXex, hH0, hs0] at this
        exact this
      have hok1 : HOk X.prog X.w H' s1.heap := by have := J1.hok; rw [eP, ew] at this; exact this
      obtain ⟨mC, hmC, _⟩ := J1.loc
      have hmC' : s1.heap.Ns H3.objs.size mC := by rw [eXloc] at hmC; exact hmC
      have hCfree : H' H3.objs.size = none := by have := J1.free; rw [eXloc] at this; exact this
      refine fin _ _ s1 acc H' ⟨mC, hmC'⟩ ?_ hF e1.2.1 ?_
      · refine I.fpOk (by rw [hC]; exact Nat.le_succ _) ?_
        rw [upd_ne (Ne.symm hDC)]
        exact hCfree
      · refine I.call' (ch := fp) (J1.os.trans hos) ?_ (hok1.adopt e1.2.1 hz rv e1.1) J1.bare fun b hb => ⟨(f2 b hb).2.2.2.1, (f2 b hb).2.1, (f2 b hb).2.2.2.2.1, (f2 b hb).2.2.2.2.2⟩
        have below : ∀ b o, s2.heap.get? b = some o → b ≠ s2.heap.objs.size := fun b o e => Nat.ne_of_lt (Heap.lt_size e)
        have nin : ∀ b o, s2.heap.get? b = some o → b ∉ fp → b ∉ s2.heap.objs.size :: fp := fun b o e hb z => (List.mem_cons.mp z).elim (below b o e) hb
        have trkne : ∀ b u, H b = some u → b ≠ s2.heap.objs.size := fun b u e z => by rw [z, hDn] at e; cases e
        refine ⟨fun b o e n hf hb => un.keep b o (old3 b o e) n hf (nin b o e hb), fun b o e n hf hb => un.slot b o (old3 b o e) n hf (nin b o e hb), fun b o e n hb => ?_, fun b o e hb => un.there b o (old3 b o e) (nin b o e hb), fun b ys e => ?_, fun b o u e => ?_, fun b ps e => ?_⟩
        · rw [upd_ne (below b o e)]; exact un.free b o (old3 b o e) n (nin b o e hb)
        · rw [upd_ne (trkne b _ e)]; exact un.tups b ys e
        · rw [upd_ne (trkne b _ e)]; exact un.frzs b o u e
        · rw [upd_ne (trkne b _ e)]; exact un.tbls b ps e
    · have q1 := T.item X' eP ew eK ec i _ s' _ H' (fun _ _ => False) J (fpok fr') st' go
      rw [← eP, ← ew] at q1
      have q2 := q1
      refine thn q2 fun r s1 h1 => ?_
      obtain ⟨u, hr, h4⟩ := h1
      subst hr
      dsimp only
      refine thn h4 fun _ s5 ⟨x, H5, J5, r5, y5, st5, fr5⟩ => ?_
      have J5' := J5.pinned (fpok fr5) (T.obj _ _ st5)
      have q5 := hg' _ s5 _ H5 x u _ J5' r5 (step x H5 y5)
      rw [exe] at q5
      refine thn q5 fun _ s6 ⟨σ6, H6, J6, hσ, q6⟩ => ?_
      have q7 := ht' _ s6 σ6 H6 _ J6 q6
      rw [exe] at q7
      refine thn q7 fun ok s7 ⟨H7, J7, q7⟩ => ?_
      -- the state behind a turn
      have lenσ : ∀ {H8 : Hp} {s8 : Shared} {pl : List (Addr × Obj)}, Inv X' pl σ6 H8 s8 → (List.replicate xs.length none ++ σ).length = σ6.length := fun {H8 s8 pl} J8 => J6.len.symm ▸ I4.len
      have weak : ∀ {H8 : Hp} {s8 : Shared} {pl : List (Addr × Obj)}, Inv X' pl σ6 H8 s8 → Inv X' pl (List.replicate xs.length none ++ σ) H8 s8 := fun {H8 s8 pl} J8 => by
        refine J8.weak (lenσ J8) fun j v e => ?_
        by_cases hj : j < xs.length
        · rw [List.getElem?_append_left (by simpa using hj), List.getElem?_replicate, if_pos hj] at e
          cases e
        · have hj' : xs.length ≤ j := Nat.le_of_not_lt hj
          rw [List.getElem?_append_right (by simpa using hj'), List.length_replicate, ← hσ, List.getElem?_drop] at e
          rw [← e]
          congr 1
          omega
      have back : ∀ {H8 : Hp} {s8 : Shared}, Inv X' ([(s2.heap.objs.size, { cls := .type "list", data := .seq its.toArray k })] ++ pinsAt fp s5.heap) σ6 H8 s8 →
          Inv X' [] (List.replicate xs.length none ++ σ) H8 s8 ∧ tn (i + 1) s8.heap ∧ (∀ b ∈ fp, H8 b = none) ∧ H8 s2.heap.objs.size = none ∧ s8.heap.get? s2.heap.objs.size = some { cls := .type "list", data := .seq its.toArray k } := fun {H8 s8} J8 => by
        have eD := J8.pin (s2.heap.objs.size, { cls := .type "list", data := .seq its.toArray k }) (List.mem_append_right _ (List.mem_append_left _ List.mem_cons_self))
        refine ⟨(weak J8).pins_of fun p hp => absurd hp (by simp), T.keep _ _ _ st5 fun b hb o e => (J8.pin (b, o) (List.mem_append_right _ (List.mem_append_right _ (mem_pinsAt hb e)))).1, fun b hb => ?_, eD.2.1, eD.1⟩
        obtain ⟨o, e, d⟩ := T.obj _ _ st5 b hb
        exact (J8.pin (b, o) (List.mem_append_right _ (List.mem_append_right _ (mem_pinsAt hb e)))).2.1
      cases ok with
      | false =>
        simp only [Bool.false_eq_true, if_false] at q7 ⊢
        obtain ⟨m', hm, w7⟩ := hN _ _ q7
        obtain ⟨a1, a2, a3, a4, a5⟩ := back J7
        exact ⟨m', hm, i + 1, acc, its, k, H7, a1, a2, a3, a4, rv, a5, w7⟩
      | true =>
        simp only [if_true] at q7 ⊢
        have q8 := he' _ s7 σ6 H7 _ J7 q7
        rw [exe] at q8
        refine thn q8 fun u8 s8 ⟨y, H8, J8, r8, q9⟩ => ?_
        obtain ⟨m', hm, w8⟩ := hN _ _ q9
        obtain ⟨a1, a2, a3, a4, a5⟩ := back J8
        have hits : its.length = acc.length := rv.length.symm
        refine wpAny_list_append_plain (hsz := by show its.toArray.size ≤ sizeLine; rw [List.size_toArray, hits]; exact Nat.le_of_lt hz) ⟨k, a5⟩ fun h9 hl9 hs9 => ?_
        obtain ⟨k9, e9⟩ := hl9
        refine ⟨m', hm, i + 1, acc ++ [y], its ++ [u8], k9, H8, ?_, ?_, a3, a4, rv.append (.cons r8 .nil), ?_, w8⟩
        · exact a1.turned (t' := s8.toks) (fun b o hb e => hs9.extBut b o hb e) a4 (by rw [eXloc]; exact hDC) (.inl (by rw [eXex]; exact List.mem_cons_self)) (fun x c e => by rw [eXcl] at e; exact hnocell _ (Nat.le_refl _) x c (clF_lookup e).1) (fun p hp => by rw [eXpn] at hp; simp at hp)
        · exact T.keep _ _ _ a2 fun b hb o e => hs9.extBut b o (Nat.ne_of_lt (fpLt b hb)) e
        · rw [e9]
          congr 2
          simp
  rw [show { newEnv sc H3.objs.size X.env.globals (clF X.env.cells sc.names []) X.env.qual none .none (some X.env) builtinsNs with scope := relabel sc X.env } = X'.env from envE.symm]
  exact codeAny_compStart_list (loop _ rfl) (T.self X.A 0 _ _ _ st1 (loop _ rfl))
end
end L2

namespace L2
open PySem PySem.Spec PyProof.Rows

/-- [elt for tg in iter if ..]: W the word by the turn, a measure, and what is gathered -/
noncomputable def LCW (n : Nat) (J : It) (g : TG) (tc : TT) (te : TE) (σ : St) (H1 : Hp) (F : List V → Hp → Prop) : Prop :=
  ∃ W : Nat → Nat → List V → Hp → Prop, (∃ m, W 0 m [] H1) ∧ ∀ i m acc H, W i m acc H → (J.stop i H ∧ acc.length ≤ sizeLine ∧ F acc H) ∨
    (J.go i H ∧ acc.length < sizeLine ∧ ∃ N : List V → Hp → Prop, (∀ acc' H', N acc' H' → ∃ m', m' < m ∧ W (i + 1) m' acc' H') ∧ ∀ x H', J.yld i H x H' → g x (List.replicate n none ++ σ) H' fun σ2 H2 => σ2.drop n = σ ∧ tc σ2 H2 fun c H3 =>
      if c = true then te σ2 H3 fun y H4 => N (acc ++ [y]) H4 else N acc H3)
noncomputable def tLC (n : Nat) (wi : TI) (g : TG) (tc : TT) (te : TE) : TE := fun σ H Q => wi σ H fun J H1 => LCW n J g tc te σ H1 fun acc H => ∀ p, H p = none → Q (.ref p) (upd H p (.lst acc))

section
variable {X : Cx} {tg iter elt : Expr} {ifs : List Expr} {sc : Scope} {pos : Pos} {xs : List Str} {wi : TI} {g : TG} {tc : TT} {te : TE}
theorem FpOk.turn {pins : List (Addr × Obj)} {σ : St} {H : Hp} {s : Shared} {C : Addr} {h' : Heap} (f : FpOk X pins H C) (I : Inv X pins σ H s) (hs : Heap.SameBut C s.heap h') : Inv X pins σ H { s with heap := h' } :=
  I.turned (t' := s.toks) (fun b o hb e => hs.extBut b o hb e) f.1 f.2.1 f.2.2.2.1 f.2.2.2.2.1 f.2.2.2.2.2
theorem pe_comp (S : CScope X xs sc) (hc : X.calm = true) (hi : PI X tg iter wi) (hg : ∀ ex s3 H3, PG (cxC X xs sc ex s3 H3) tg g) (ht : ∀ ex s3 H3, PTs (cxC X xs sc ex s3 H3) ifs tc) (he : ∀ ex s3 H3, PE (cxC X xs sc ex s3 H3) elt te)
    (hs : ∀ x, foldedSetIterable iter X.env x = pure x := by intro _; rfl) : PE X (.ListComp elt [⟨tg, iter, ifs, 0⟩] sc pos) (tLC xs.length wi g tc te) := by
  intro pins s σ H Q I h
  rw [eval_ListComp]
  refine wpAny_comprehension_free (use := none) rfl hs (closure_eq (S.cells I.ok)) S.kind S.names (thn (hi pins s σ H _ I h) fun v s1 h1 => thn h1 fun itv s2 h2 => ?_)
  obtain ⟨it, fp, tn, J, H2, e, I2, T, st2, f2, W, w0, turn⟩ := h2
  subst e
  refine comp_core (RR := fun acc C => compPost (model X.prog X.w) X.A X.xe none (EP X pins σ Q) acc C) S hc hg ht he I2 T st2 f2 W w0 _ turn fun D C s' acc H' hns fC hF hD IF => ?_
  obtain ⟨m, hm⟩ := hns
  exact ⟨m, hm, fun h' hs' => ⟨.ref D, _, fC.turn IF hs', rfl, hF D hD⟩⟩
/-- x = [..], the name stored ahead of the block's own names let go -/
theorem ps_comp {i : Nat} {y : Str} {pos' spos : Pos} (S : CScope X xs sc) (hc : X.calm = true) (hN : X.N.Nodup) (hy : X.N[i]? = some y) (hk : X.env.scope.names.lookup y = some .local)
    (hi : PI X tg iter wi) (hg : ∀ ex s3 H3, PG (cxC X xs sc ex s3 H3) tg g) (ht : ∀ ex s3 H3, PTs (cxC X xs sc ex s3 H3) ifs tc) (he : ∀ ex s3 H3, PE (cxC X xs sc ex s3 H3) elt te)
    (hsw : swapsWith (.ListComp elt [⟨tg, iter, ifs, 0⟩] sc pos) (some (.Name y pos')) spos.line X.env = pure true := by rfl)
    (hs : ∀ x, foldedSetIterable iter X.env x = pure x := by intro _; rfl) : PS X (.Assign [.Name y pos'] (.ListComp elt [⟨tg, iter, ifs, 0⟩] sc pos) spos) (tAsg (tLC xs.length wi g tc te) (gName i)) := by
  intro pins s σ H D I h
  rw [exec_Assign_Name_used _ _ _ _ hsw]
  refine wpAny_bind (wpAny_standAt (wpAny_bind ?_))
  show wpAny _ X.A (do let _ ← comprehension (.ListComp elt [⟨tg, iter, ifs, 0⟩] sc pos) sc X.env _ (newList []) false (eval iter X.env) (some (assign (.Name y pos') X.env))) _ _ s
  refine wpAny_bind (wpAny_mono (wpAny_comprehension_free (use := some (assign (.Name y pos') X.env)) (Q := fun _ s' => SP X pins D .next s') rfl hs (closure_eq (S.cells I.ok)) S.kind S.names
    (thn (hi pins s σ H _ I h) fun v s1 h1 => thn h1 fun itv s2 h2 => ?_)) (fun _ s' hq => wpAny_pure (wpAny_pure hq)) fun _ _ e => e)
  obtain ⟨it, fp, tn, J, H2, e, I2, T, st2, f2, W, w0, turn⟩ := h2
  subst e
  refine comp_core (RR := fun acc C => compPost (model X.prog X.w) X.A X.xe (some (assign (.Name y pos') X.env)) (fun _ s' => SP X pins D .next s') acc C) S hc hg ht he I2 T st2 f2 W w0 _ turn fun D' C s' acc H' hns fC hF hD IF => ?_
  obtain ⟨m, hm⟩ := hns
  refine wpAny_assign_Name (store_ok2 (v := .ref D') IF hN hy (.inl hk) rfl (fun s'' I'' hsb => ?_) (.inr hk))
  obtain ⟨a, hsb, ha⟩ := hsb
  have hne : C ≠ a := by
    rcases ha with z | z
    · rw [z]; exact fC.2.1
    · exact fun q => fC.2.2.2.2.1 y a z q.symm
  refine ⟨m, hm.sameBut hsb hne, fun h' hs' => ⟨_, _, fC.turn I'' hs', hF D' hD⟩⟩
end

/-! ### the forms one uses -/
theorem lc_list {K : PySem.W.Frag} {a : Addr} {xs : List V} {n : Nat} {g : TG} {tc : TT} {te : TE} {σ : St} {H : Hp} {F : List V → Hp → Prop} (Pv : Nat → List V → Hp → Prop) (hn : xs.length ≤ 1000000) (h0 : Pv 0 [] H)
    (hl : ∀ i acc H, i ≤ xs.length → Pv i acc H → SqL K H a xs ∧ acc.length ≤ i)
    (hs : ∀ i x acc H, xs[i]? = some x → Pv i acc H → g x (List.replicate n none ++ σ) H fun σ2 H2 => σ2.drop n = σ ∧ tc σ2 H2 fun c H3 => if c = true then te σ2 H3 fun y H4 => Pv (i + 1) (acc ++ [y]) H4 else Pv (i + 1) acc H3)
    (hd : ∀ acc H, Pv xs.length acc H → F acc H) : LCW n (Itl K a) g tc te σ H F := by
  have sz : (1000000 : Nat) < sizeLine := by rw [sizeLine_eq]; decide
  refine ⟨fun i m acc H => m = xs.length - i ∧ i ≤ xs.length ∧ Pv i acc H, ⟨xs.length, by simp, Nat.zero_le _, h0⟩, ?_⟩
  rintro i m acc H ⟨rfl, hi, p⟩
  have q := hl i acc H hi p
  by_cases hlt : i < xs.length
  · refine .inr ⟨⟨xs, xs[i], q.1, by simp [hlt]⟩, by omega, Pv (i + 1), fun acc' H' p' => ⟨xs.length - (i + 1), by omega, rfl, hlt, p'⟩, fun x H' y => ?_⟩
    obtain ⟨e, y⟩ := y
    subst e
    exact hs i x acc _ (y xs q.1) p
  · have e : i = xs.length := by omega
    subst e
    exact .inl ⟨⟨xs, q.1, Nat.le_refl _⟩, by omega, hd acc H p⟩
theorem lc_range {lo : Int} {k : Nat} {n : Nat} {g : TG} {tc : TT} {te : TE} {σ : St} {H : Hp} {F : List V → Hp → Prop} (Pv : Nat → List V → Hp → Prop) (hn : k ≤ 1000000) (h0 : Pv 0 [] H)
    (hl : ∀ i acc H, i ≤ k → Pv i acc H → acc.length ≤ i)
    (hs : ∀ i acc H, i < k → Pv i acc H → g (.int (lo + i)) (List.replicate n none ++ σ) H fun σ2 H2 => σ2.drop n = σ ∧ tc σ2 H2 fun c H3 => if c = true then te σ2 H3 fun y H4 => Pv (i + 1) (acc ++ [y]) H4 else Pv (i + 1) acc H3)
    (hd : ∀ acc H, Pv k acc H → F acc H) : LCW n (Itr lo k) g tc te σ H F := by
  have sz : (1000000 : Nat) < sizeLine := by rw [sizeLine_eq]; decide
  refine ⟨fun i m acc H => m = k - i ∧ i ≤ k ∧ Pv i acc H, ⟨k, by simp, Nat.zero_le _, h0⟩, ?_⟩
  rintro i m acc H ⟨rfl, hi, p⟩
  have q := hl i acc H hi p
  by_cases hlt : i < k
  · refine .inr ⟨hlt, by omega, Pv (i + 1), fun acc' H' p' => ⟨k - (i + 1), by omega, rfl, hlt, p'⟩, fun x H' y => ?_⟩
    obtain ⟨e, y⟩ := y
    subst e y
    exact hs i acc _ hlt p
  · have e : i = k := by omega
    subst e
    exact .inl ⟨Nat.le_refl _, by omega, hd acc H p⟩
end L2

namespace L2
open PySem PySem.Spec PyProof.Rows

section
variable {prog : Program} {w : World} {A : Around} {E : Value → Shared → Prop} {s : Shared}
end

section
variable {X : Cx} {pos : Pos}
/-- isinstance(x, T), T a built-in type -/
theorem call_isinst : CallR X (.builtin "isinstance") (fun xs H Q => ∃ x n t b, xs = [x, .ty n] ∧ TyOf X.K H x t ∧ PySem.W.kitOne X.K t (.type n) = some b ∧ Q (.bl b) H) := by
  intro pins s σ H xs us Q I r h
  obtain ⟨x, n, t, b, rfl, ty, e, q⟩ := h
  obtain ⟨u, v, rfl, rx, ry⟩ := vals2 r
  obtain rfl : v = Value.type n := ry
  exact isinst_ok I rx ty e fun tk => ⟨.bl b, H, I.tok tk, rfl, q⟩
/-- n.bit_length() -/
theorem mt_bitlen : MtR X "int.bit_length" (fun x xs H Q => ∃ i, x = .int i ∧ xs = [] ∧ Q (.int ((Builtin.Int.intBits i : Nat) : Int)) H) := by
  intro pins s σ H x xs v us Q I rx rs h
  obtain ⟨i, rfl, rfl, q⟩ := h
  obtain ⟨t, rfl⟩ := rx
  cases rs
  exact call_int_bit_length ⟨.int _, H, I.tok _, ⟨_, rfl⟩, q⟩
/-- two lists of ints compared -/
noncomputable def rEqL (K : PySem.W.Frag) (neg : Bool) : R2 := fun x y H Q => ∃ (a b : Addr) (ns ms : List Int), x = .ref a ∧ y = .ref b ∧ SqL K H a (ns.map V.int) ∧ SqL K H b (ms.map V.int) ∧ Q (.bl (if neg then !decide (ns = ms) else decide (ns = ms))) H
theorem op_neL (hu : X.A.units + 64 < cLine) : OpR X (compareOp .NotEq) (rEqL X.K true) := by
  intro pins s σ H x y v u Q I rx ry h
  obtain ⟨a, b, ns, ms, rfl, rfl, h1, h2, q⟩ := h
  cases rx; cases ry
  obtain ⟨its, rv, pl, _⟩ := I.list h1
  obtain ⟨its', rv', pl', _⟩ := I.list h2
  exact PySem.W.ne_intsK pl.isList (intsAre_of rv) pl'.isList (intsAre_of rv') hu ⟨.bl _, H, I, rfl, q⟩
end
end L2

namespace L2
open PySem PySem.Spec PyProof.Rows

/-! ### small words -/
/-- all but what stands at st is as it was -/
noncomputable def But (st : Addr) (H H' : Hp) : Prop := ∀ b o, H b = some o → b ≠ st → H' b = some o
theorem But.refl (st : Addr) (H : Hp) : But st H H := fun _ _ h _ => h
theorem But.trans {st : Addr} {H H1 H2 : Hp} (a : But st H H1) (b : But st H1 H2) : But st H H2 := fun c o h n => b c o (a c o h n) n
theorem But.put (st : Addr) (H : Hp) (o : HO) : But st H (upd H st o) := fun b u e n => by rw [upd_ne n]; exact e
theorem Same.but {st : Addr} {H H' : Hp} (e : Same H H') : But st H H' := fun b o h _ => e b o h
theorem Same.new {H : Hp} {p : Addr} {o : HO} (h : H p = none) : Same H (upd H p o) := fun b u e => by rw [upd_ne (ne_of_none e h)]; exact e
theorem But.new {st : Addr} {H : Hp} {p : Addr} {o : HO} (h : H p = none) : But st H (upd H p o) := (Same.new h).but

theorem nat_of {x : Int} {n : Nat} (h0 : 0 ≤ x) (h1 : x < (n : Int)) : ∃ r : Nat, x = (r : Int) ∧ r < n := ⟨x.toNat, by omega, by omega⟩
theorem shl1 (m : Nat) : (1 : Int) * 2 ^ (m : Int).toNat = ((2 ^ m : Nat) : Int) := by simp
theorem cpow1 {m : Nat} (h : m ≤ 1000) : CPow 1 (m : Int) := ⟨by omega, by omega, by decide⟩
theorem and_lt {a b n : Nat} (h : a < n) : a &&& b < n := Nat.lt_of_le_of_lt Nat.and_le_left h
/-! ### sets as naturals -/
theorem bitAnd_nat (a b : Nat) : Builtin.bitAnd (a : Int) (b : Int) = ((a &&& b : Nat) : Int) := by
  simp [Builtin.bitAnd]
theorem bitNot_not (x : Int) : Builtin.bitNot (Builtin.bitNot x) = x := by unfold Builtin.bitNot; omega
theorem bitOr_nat (a b : Nat) : Builtin.bitOr (a : Int) (b : Int) = ((a ||| b : Nat) : Int) := by
  have ha : ¬ 0 ≤ Builtin.bitNot (a : Int) := by unfold Builtin.bitNot; omega
  have hb : ¬ 0 ≤ Builtin.bitNot (b : Int) := by unfold Builtin.bitNot; omega
  unfold Builtin.bitOr
  simp only [Builtin.bitAnd, ha, hb, decide_false, bitNot_not, Int.toNat_natCast]
theorem two_pow_int (k : Nat) : ((2 : Int) ^ k) = ((2 ^ k : Nat) : Int) := by simp
end L2

namespace L2
open PySem PySem.Spec PyProof.Rows
/-- what is asked of a comprehension's scope, reckoned -/
noncomputable def cscB (N xs : List Str) (osc sc : Scope) : Bool :=
  decide (sc.kind = .function) && sc.names.all (fun y => decide (y.2 ≠ .cell)) && sc.names.all (fun y => decide (y.2 ≠ .local) || decide (sc.names.lookup y.1 = some .local)) && xs.all (fun x => decide (sc.names.lookup x = some .local)) &&
    N.all (fun y => decide (sc.names.lookup y ≠ some .local)) && sc.names.all (fun y => decide (y.2 ≠ .free) || (decide (osc.names.lookup y.1 = some .cell) || decide (osc.names.lookup y.1 = some .free))) && decide ((xs ++ N).Nodup)
theorem cs {X : Cx} {xs : List Str} {sc : Scope} (N : List Str) (osc : Scope) (hN : X.N = N) (ho : X.env.scope = osc) (h : cscB N xs osc sc = true) : CScope X xs sc := by
  unfold cscB at h
  simp only [Bool.and_eq_true, List.all_eq_true, decide_eq_true_eq, Bool.or_eq_true] at h
  obtain ⟨⟨⟨⟨⟨⟨h1, h2⟩, h3⟩, h4⟩, h5⟩, h6⟩, h7⟩ := h
  refine ⟨h1, h2, fun y hy e => ?_, h4, by rw [hN]; exact h5, fun y hy e => ?_, by rw [hN]; exact h7⟩
  · rcases h3 y hy with z | z
    · exact absurd e z
    · exact z
  · rcases h6 y hy with z | z
    · exact absurd e z
    · show X.env.scope.names.lookup y.1 = _ ∨ X.env.scope.names.lookup y.1 = _
      rw [ho]; exact z
end L2

namespace L2
open PySem PySem.Spec PyProof.Rows
theorem mod_lo (x : Int) {m : Int} (h : 0 < m) : 0 ≤ x % m := Int.emod_nonneg _ (by omega)
theorem mod_hi (x : Int) {m : Int} (h : 0 < m) : x % m < m := Int.emod_lt_of_pos _ h
/-! ### columns of a set, as naturals -/
noncomputable def vN (k : Nat) : V := V.int (k : Int)
noncomputable def hasB (a k : Nat) : Bool := decide (a / 2 ^ k % 2 = 1)
noncomputable def bitsN (a : Nat) : Nat := Builtin.Int.intBits (a : Int)
noncomputable def colsN (a : Nat) : List Nat := (List.range (bitsN a)).filter (hasB a)
theorem map_int (l : List Nat) : (l.map fun (k : Nat) => (k : Int)).map V.int = l.map vN := by rw [List.map_map]; rfl
theorem bitsN_le {a : Nat} (h : a < 2 ^ 20) : bitsN a ≤ 20 := by
  unfold bitsN Builtin.Int.intBits
  split
  · omega
  · rename_i z
    have h0 : a ≠ 0 := by intro e; subst e; exact z rfl
    have : a.log2 < 20 := (Nat.log2_lt h0).mpr h
    show (a : Int).natAbs.log2 + 1 ≤ 20
    rw [Int.natAbs_natCast]
    omega
theorem dec_nat (a b : Nat) : decide (V.int (a : Int) = V.int (b : Int)) = decide (a = b) := by
  rw [dec_int, Bool.eq_iff_iff, beq_iff_eq, decide_eq_true_iff]
  exact Int.ofNat_inj
noncomputable def spHas : Sp := fun vs H Q _ => ∃ a k : Nat, vs = [vN a, vN k] ∧ Q (.bl (hasB a k)) H
noncomputable def spCols : Sp := fun vs H Q _ => ∃ a : Nat, vs = [vN a] ∧ a < 2 ^ 20 ∧ ∀ p, H p = none → Q (.ref p) (upd H p (.lst ((colsN a).map vN)))
noncomputable def spAllOf : Sp := fun vs H Q _ => ∃ m : Nat, vs = [vN m] ∧ m ≤ 1000 ∧ Q (vN (2 ^ m - 1)) H
theorem has_eq (a k : Nat) : decide (V.int (Builtin.bitAnd ((a : Int) / 2 ^ (k : Int).toNat) 1) = V.int 1) = hasB a k := by
  have e : ((a : Int) / 2 ^ (k : Int).toNat) = ((a / 2 ^ k : Nat) : Int) := by
    rw [Int.toNat_natCast, two_pow_int]; omega
  rw [e, show (1 : Int) = ((1 : Nat) : Int) from rfl, bitAnd_nat, dec_nat, Nat.and_one_is_mod]
  rfl
theorem filt_succ (p : Nat → Bool) (i : Nat) : (List.range (i + 1)).filter p = (List.range i).filter p ++ (if p i = true then [i] else []) := by
  rw [List.range_succ, List.filter_append]
  congr 1
  cases h : p i <;> simp [h]
end L2

namespace L2
open PySem PySem.Spec PyProof.Rows
/-! ### the rules that speak of the written part, with it told (in a comprehension's block it stands under a binder) -/
section
variable {X : Cx} {K : PySem.W.Frag}
theorem ix_listK (h : X.K = K) : IxR X (rIxL K) := h ▸ ix_list
theorem ix_tupK (h : X.K = K) : IxR X (rIxT K) := h ▸ ix_tup
theorem call_lenK (h : X.K = K) : CallR X (.builtin "len") (fun xs H Q => ∃ p ys, xs = [.ref p] ∧ (SqL K H p ys ∨ SqT K H p ys) ∧ Q (.int ys.length) H) := h ▸ call_len_seq
theorem call_isK (h : X.K = K) : CallR X (.builtin "isinstance") (fun xs H Q => ∃ x n t b, xs = [x, .ty n] ∧ TyOf K H x t ∧ PySem.W.kitOne K t (.type n) = some b ∧ Q (.bl b) H) := h ▸ call_isinst
theorem call_listK (h : X.K = K) : CallR X (.type "list") (fun xs H Q => ∃ p ys, xs = [.ref p] ∧ (SqL K H p ys ∨ SqT K H p ys) ∧ ∀ l, H l = none → Q (.ref l) (upd H l (.lst ys))) := h ▸ call_list_of
theorem op_neLK (h : X.K = K) (hu : X.A.units + 64 < cLine) : OpR X (compareOp .NotEq) (rEqL K true) := h ▸ op_neL hu
theorem pi_listK {tg l : Expr} {tl : TE} (h : X.K = K) (hl : PE X l tl) : PI X tg l (iList K tl) := h ▸ pi_list hl
end
end L2

namespace L2
open PySem PySem.Spec PyProof.Rows
/-! ### arithmetic of naturals -/
noncomputable def rN (C : Nat → Nat → Prop) (g : Nat → Nat → V) : R2 := fun x y H Q => ∃ i j : Nat, x = vN i ∧ y = vN j ∧ C i j ∧ Q (g i j) H
noncomputable def rN0 (g : Nat → Nat → V) : R2 := fun x y H Q => ∃ i j : Nat, x = vN i ∧ y = vN j ∧ Q (g i j) H
section
variable {X : Cx}
theorem OpR.mono {f : Value → Value → Sem Value} {r r' : R2} (h : OpR X f r) (k : ∀ x y H Q, r' x y H Q → r x y H Q) : OpR X f r' := fun pins s σ H x y v u Q I rx ry q => h pins s σ H x y v u Q I rx ry (k x y H Q q)
theorem op_addN : OpR X (binaryOp .Add) (rN0 fun i j => vN (i + j)) := op_add.mono fun x y H Q ⟨i, j, h1, h2, q⟩ => ⟨i, j, h1, h2, by show Q (V.int ((i : Int) + j)) H; rw [← Int.natCast_add]; exact q⟩
theorem op_subN : OpR X (binaryOp .Sub) (rN (fun i j => j ≤ i) fun i j => vN (i - j)) := op_sub.mono fun x y H Q ⟨i, j, h1, h2, h, q⟩ => ⟨i, j, h1, h2, by show Q (V.int ((i : Int) - j)) H; rw [← Int.ofNat_sub h]; exact q⟩
theorem op_modN' : OpR X (binaryOp .Mod) (rN (fun _ j => 0 < j) fun i j => vN (i % j)) := op_mod.mono fun x y H Q ⟨i, j, h1, h2, h, q⟩ => ⟨i, j, h1, h2, by omega, by show Q (V.int ((i : Int) % j)) H; rw [← Int.natCast_emod]; exact q⟩
theorem op_fdivN' : OpR X (binaryOp .FloorDiv) (rN (fun _ j => 0 < j ∧ j < 1073741824) fun i j => vN (i / j)) := op_fdiv.mono fun x y H Q ⟨i, j, h1, h2, h, q⟩ => ⟨i, j, h1, h2, ⟨by omega, by omega⟩, by show Q (V.int ((i : Int) / j)) H; rw [← Int.natCast_ediv]; exact q⟩
theorem op_shlN : OpR X (binaryOp .LShift) (rN (fun i j => j ≤ 1000 ∧ i < 2 ^ 64) fun i j => vN (i * 2 ^ j)) := op_shl.mono fun x y H Q ⟨i, j, h1, h2, h, q⟩ => ⟨i, j, h1, h2, ⟨by omega, by omega, by rw [Int.natAbs_natCast]; exact h.2⟩, by
  show Q (V.int ((i : Int) * 2 ^ (j : Int).toNat)) H
  rw [Int.toNat_natCast, two_pow_int, ← Int.natCast_mul]; exact q⟩
/-- 1 << j -/
theorem op_shl1 : OpR X (binaryOp .LShift) (fun x y H Q => ∃ j : Nat, x = .int 1 ∧ y = vN j ∧ j ≤ 1000 ∧ Q (vN (2 ^ j)) H) := op_shlN.mono fun x y H Q ⟨j, h1, h2, h, q⟩ => ⟨1, j, h1, h2, ⟨h, by decide⟩, by show Q (vN (1 * 2 ^ j)) H; rw [Nat.one_mul]; exact q⟩
theorem op_andN : OpR X (binaryOp .BitAnd) (rN0 fun i j => vN (i &&& j)) := op_and.mono fun x y H Q ⟨i, j, h1, h2, q⟩ => ⟨i, j, h1, h2, by show Q (V.int (Builtin.bitAnd (i : Int) j)) H; rw [bitAnd_nat]; exact q⟩
theorem op_orN : OpR X (binaryOp .BitOr) (rN0 fun i j => vN (i ||| j)) := op_or.mono fun x y H Q ⟨i, j, h1, h2, q⟩ => ⟨i, j, h1, h2, by show Q (V.int (Builtin.bitOr (i : Int) j)) H; rw [bitOr_nat]; exact q⟩
theorem op_eqN : OpR X (compareOp .Eq) (rN0 fun i j => .bl (decide (i = j))) := op_eq.mono fun x y H Q ⟨i, j, h1, h2, q⟩ => by
  subst h1 h2
  refine ⟨rfl, ?_⟩
  show Q (V.bl (decide (V.int (i : Int) = V.int (j : Int)))) H
  rw [dec_nat]; exact q
theorem op_neN : OpR X (compareOp .NotEq) (rN0 fun i j => .bl (!decide (i = j))) := op_ne.mono fun x y H Q ⟨i, j, h1, h2, q⟩ => by
  subst h1 h2
  refine ⟨rfl, ?_⟩
  show Q (V.bl (!decide (V.int (i : Int) = V.int (j : Int)))) H
  rw [dec_nat]; exact q
theorem dlt (i j : Nat) : decide ((i : Int) < (j : Int)) = decide (i < j) := by rw [decide_eq_decide]; omega
theorem op_ltN : OpR X (compareOp .Lt) (rN0 fun i j => .bl (decide (i < j))) := op_lt.mono fun x y H Q ⟨i, j, h1, h2, q⟩ => ⟨i, j, h1, h2, by show Q (V.bl (decide ((i : Int) < j))) H; rw [dlt]; exact q⟩
theorem op_gtN : OpR X (compareOp .Gt) (rN0 fun i j => .bl (decide (j < i))) := op_gt.mono fun x y H Q ⟨i, j, h1, h2, q⟩ => ⟨i, j, h1, h2, by show Q (V.bl (decide ((j : Int) < i))) H; rw [dlt]; exact q⟩
end
/-- a range from nought, its numbers as naturals -/
theorem lc_rangeN {k : Nat} {n : Nat} {g : TG} {tc : TT} {te : TE} {σ : St} {H : Hp} {F : List V → Hp → Prop} (Pv : Nat → List V → Hp → Prop) (hn : k ≤ 1000000) (h0 : Pv 0 [] H)
    (hl : ∀ i acc H, i ≤ k → Pv i acc H → acc.length ≤ i)
    (hs : ∀ i acc H, i < k → Pv i acc H → g (vN i) (List.replicate n none ++ σ) H fun σ2 H2 => σ2.drop n = σ ∧ tc σ2 H2 fun c H3 => if c = true then te σ2 H3 fun y H4 => Pv (i + 1) (acc ++ [y]) H4 else Pv (i + 1) acc H3)
    (hd : ∀ acc H, Pv k acc H → F acc H) : LCW n (Itr 0 k) g tc te σ H F :=
  lc_range Pv hn h0 hl (fun i acc H hi p => by rw [Int.zero_add]; exact hs i acc H hi p) hd
theorem for_rangeN {n : Nat} {g : TG} {tb : TS} {D : Ends} {σ : St} {H : Hp} (Pv : Nat → St → Hp → Prop) (h0 : Pv 0 σ H)
    (hs : ∀ i σ H, i < n → Pv i σ H → g (vN i) σ H fun σ2 H2 => tb { D with nx := Pv (i + 1), ct := Pv (i + 1), bk := D.nx } σ2 H2) (hd : ∀ σ H, Pv n σ H → D.nx σ H) :
    ∃ W : Nat → Nat → St → Hp → Prop, (∃ m, W 0 m σ H) ∧ ∀ i m σ H, W i m σ H →
      ((Itr 0 n).stop i H ∧ D.nx σ H) ∨ ((Itr 0 n).go i H ∧ ∃ N : St → Hp → Prop, (∀ σ' H', N σ' H' → ∃ m', m' < m ∧ W (i + 1) m' σ' H') ∧ ∀ x H', (Itr 0 n).yld i H x H' → g x σ H' fun σ2 H2 => tb { D with nx := N, ct := N, bk := D.nx } σ2 H2) :=
  for_range (lo := 0) Pv h0 (fun i σ H hi p => by rw [Int.zero_add]; exact hs i σ H hi p) hd
end L2

namespace L2
open PySem PySem.Spec PyProof.Rows
/-! ### insert, index, sorted; a name let go -/
section
variable {X : Cx} {K : PySem.W.Frag}
theorem call_sortedK (h : X.K = K) : CallR X (.builtin "sorted") (fun xs H Q => ∃ (p : Addr) (ns : List Int), xs = [.ref p] ∧ SqL K H p (ns.map V.int) ∧ ns.length < 64 ∧ ∀ (l : Addr) (ns' : List Int), H l = none → ns'.Perm ns → ns'.Pairwise (· ≤ ·) → Q (.ref l) (upd H l (.lst (ns'.map V.int)))) := by
  subst h
  intro pins s σ H xs us Q I r h
  obtain ⟨p, ns, rfl, hq, h64, q⟩ := h
  obtain ⟨u, rfl, rx⟩ := vals1 r
  cases rx
  obtain ⟨its, rv, pl, hz⟩ := I.list hq
  refine sorted_ints pl.isList (intsAre_of rv) (by rw [← rv.length, List.length_map]; exact h64) fun out ns' a1 a2 a3 => ?_
  obtain ⟨e, he⟩ := sortedAll_at s.heap its out
  refine ⟨.ref (s.heap.objs.size + 1), _, I.laid (t' := s.toks) (fun b o => sortedAll_old) (Nat.le_succ _) (show ObjOk X.prog X.w _ _ _ (.lst (ns'.map V.int)) from ⟨?_, out.toList, e, vals_ints a1, by simpa using he⟩), rfl, q _ ns' (I.hok.fresh (Nat.le_succ _)) a2 a3⟩
  rw [List.length_map, a2.length_eq]
  exact Nat.le_of_lt (small1000 (by omega))
end
/-! ### the law's script and its place, the script frozen: lists of one's own stand apart from it -/
noncomputable def SqF (K : PySem.W.Frag) (H : Hp) (a : Addr) (ns : List Int) : Prop := (∃ o, H a = some (.frz o (.lst (ns.map V.int)))) ∨
  ∃ (o : Obj) (its : Array Value) (n : Nat), K.lookup a = some o ∧ o.cls = .type "list" ∧ o.dict = none ∧ o.data = .seq its n ∧ its.size ≤ sizeLine ∧ Vals (ns.map V.int) its.toList
theorem SqF.sq {K : PySem.W.Frag} {H : Hp} {a : Addr} {ns : List Int} (h : SqF K H a ns) : SqL K H a (ns.map V.int) := by
  rcases h with ⟨o, h⟩ | h
  · exact .inl (.inr ⟨o, h⟩)
  · exact .inr h
theorem SqF.imp {K : PySem.W.Frag} {H H' : Hp} {a : Addr} {ns : List Int} (h : SqF K H a ns) (e : ∀ o, H a = some (.frz o (.lst (ns.map V.int))) → H' a = some (.frz o (.lst (ns.map V.int)))) : SqF K H' a ns := by
  rcases h with ⟨o, h⟩ | h
  · exact .inl ⟨o, e o h⟩
  · exact .inr h
noncomputable def STF (K : PySem.W.Frag) (H : Hp) (st : Addr) (ns : List Int) (k : Nat) : Prop := ∃ sc, H st = some (.lst [.ref sc, .int (k : Int)]) ∧ SqF K H sc ns
theorem STF.seq {K : PySem.W.Frag} {H H' : Hp} {st sc : Addr} {ns : List Int} {v : V} (h : H st = some (.lst [.ref sc, v])) (hs : SqF K H sc ns) (b : But st H H') : SqF K H' sc ns :=
  hs.imp fun o z => b _ _ z fun e => by
    subst e
    rw [h] at z
    cases z
theorem STF.same {K : PySem.W.Frag} {H H' : Hp} {st : Addr} {ns : List Int} {k : Nat} (h : STF K H st ns k) (e : Same H H') : STF K H' st ns k := by
  obtain ⟨sc, h1, h2⟩ := h
  exact ⟨sc, e _ _ h1, h2.imp fun o z => e _ _ z⟩
theorem STF.new {K : PySem.W.Frag} {H : Hp} {st p : Addr} {ns : List Int} {k : Nat} {o : HO} (h : STF K H st ns k) (hp : H p = none) : STF K (upd H p o) st ns k := h.same (Same.new hp)
theorem STF.start {K : PySem.W.Frag} {H : Hp} {a p : Addr} {ns : List Int} (h : SqF K H a ns) (hp : H p = none) : STF K (upd H p (.lst [.ref a, .int 0])) p ns 0 :=
  ⟨a, upd_same, h.imp fun o z => (Same.new hp) _ _ z⟩
/-- a list of one's own is written -/
theorem STF.put {K : PySem.W.Frag} {H : Hp} {st p : Addr} {ns : List Int} {k : Nat} {xs ys : List V} (h : STF K H st ns k) (hp : H p = some (.lst xs)) (hn : p ≠ st) : STF K (upd H p (.lst ys)) st ns k := by
  obtain ⟨sc, h1, h2⟩ := h
  refine ⟨sc, by rw [upd_ne (Ne.symm hn)]; exact h1, h2.imp fun o z => ?_⟩
  rw [upd_ne]
  · exact z
  · intro e
    subst e
    rw [hp] at z
    cases z
theorem STF.some {K : PySem.W.Frag} {H : Hp} {st : Addr} {ns : List Int} {k : Nat} (h : STF K H st ns k) : ∃ o, H st = some o := by
  obtain ⟨sc, h1, _⟩ := h
  exact ⟨_, h1⟩
theorem But.own {st p : Addr} {H H' : Hp} {o : HO} (b : But st H H') (hp : H p = none) : But st H (upd H' p o) := fun c u e n => by
  rw [upd_ne (ne_of_none e hp)]
  exact b c u e n
noncomputable def spTakeF (K : PySem.W.Frag) : Sp := fun vs H Q _ => ∃ (st : Addr) (ns : List Int) (k : Nat) (most : Int), vs = [.ref st, .int most] ∧ STF K H st ns k ∧ k ≤ 1000000 ∧ ns.length ≤ 63 ∧ 0 < most ∧
  ∀ (r : Int) (H' : Hp), 0 ≤ r → r < most → STF K H' st ns (k + 1) → But st H H' → Q (.int r) H'
noncomputable def spSetF (K : PySem.W.Frag) : Sp := fun vs H Q _ => ∃ (st : Addr) (ns : List Int) (k m : Nat), vs = [.ref st, .int (m : Int)] ∧ STF K H st ns k ∧ k ≤ 900000 ∧ ns.length ≤ 63 ∧ 1 ≤ m ∧ m ≤ 7 ∧
  ∀ (r k' : Nat) (H' : Hp), r < 2 ^ m → k' ≤ k + 3 → STF K H' st ns k' → But st H H' → Q (.int (r : Int)) H'
end L2

namespace L2
open PySem PySem.Spec PyProof.Rows
/-! ### ints compared, truths compared, tuples compared, all -/
section
variable {X : Cx} {K : PySem.W.Frag}
end
end L2

namespace L2
open PySem PySem.Spec PyProof.Rows
/-! ### two tuples walked side by side -/
section
variable {prog : Program} {w : World} {A : Around} {E : Value → Shared → Prop} {s : Shared}
end
/-! ### .. as the layer walks it -/
section
variable {X : Cx} {pins : List (Addr × Obj)} {σ : St} {H : Hp} {s : Shared}
theorem Inv.turnedL {t' : Nat} {h' : Heap} {ch : List Addr} (I : Inv X pins σ H s) (k : ∀ b o, b ∉ ch → s.heap.get? b = some o → h'.get? b = some o) (hf : ∀ b ∈ ch, FpOk X pins H b) : Inv X pins σ H { s with heap := h', toks := t' } := by
  have nit : ∀ b u, H b = some u → b ∉ ch := fun b u e z => by rw [(hf b z).1] at e; cases e
  refine I.step (g' := s.gens) (d' := s.drawn) (ch := ch) (fun b hb => ?_) (fun b o _ _ hc e _ => k b o hc e) (fun b o _ _ hc e _ => ⟨o.slots, k b o hc e⟩) (fun _ _ _ _ n => n) (fun b o hc e => ⟨o, k b o hc e⟩) (fun _ _ e => e) (fun _ _ _ e => e) (fun b ps e => ⟨#[], by rw [e]; simp⟩) (fun m hm => ?_) (fun b u e => ?_) I.bare
  · obtain ⟨f0, f1, f2, f3, f4, f5⟩ := hf b hb
    exact ⟨f3, f1, f4, f5⟩
  · obtain ⟨o, es, ep, ho, r⟩ := hm
    exact ⟨o, es, ep, k _ o (fun z => (hf _ z).2.1 rfl) ho, r⟩
  · refine (I.hok b u e).stay (fun c v hc q => k c v ?_ q) (fun _ q => q) fun _ _ q => q
    rcases hc with z | z
    · rw [z]; exact nit b u e
    · exact nit c _ z
end
end L2

namespace L2
open PySem PySem.Spec PyProof.Rows
/-! ### rows of a book in the heap -/
theorem stf_fresh {K : PySem.W.Frag} {H H1 : Hp} {st p : Addr} {ns : List Int} {k : Nat} (S : STF K H1 st ns k) (B : But st H H1) (hp : H1 p = none) : H p = none ∧ p ≠ st := by
  have hn : p ≠ st := fun e => by
    obtain ⟨o, z⟩ := S.some
    rw [← e, hp] at z; cases z
  refine ⟨?_, hn⟩
  cases e : H p with
  | none => rfl
  | some o => rw [B p o e hn] at hp; cases hp
theorem stf_tup {K : PySem.W.Frag} {H H1 : Hp} {st t : Addr} {ns : List Int} {k : Nat} {xs : List V} (S : STF K H st ns k) (B : But st H H1) (h : H t = some (.tup xs)) : H1 t = some (.tup xs) :=
  B _ _ h fun e => by
    obtain ⟨sc, h1, _⟩ := S
    rw [← e, h] at h1; cases h1
/-- a list is written: tuples stay -/
theorem tup_put {H : Hp} {p : Addr} {xs ys : List V} (hp : H p = some (.lst xs)) : ∀ t zs, H t = some (.tup zs) → (upd H p (.lst ys)) t = some (.tup zs) := fun t zs e => by
  rw [upd_ne]
  · exact e
  · intro z
    rw [z, hp] at e; cases e
/-! ### what the program says of rows -/
noncomputable def spHas2 : Sp := fun vs H Q _ => ∃ a k : Nat, vs = [vN a, vN k] ∧ k ≤ 20 ∧ Q (.bl (hasB a k)) H
end L2

namespace L2
open PySem PySem.Spec PyProof.Rows

/-! ### lists of pairs as tables -/
section
variable {κ : Type} [DecidableEq κ]
end


/-! ### a tracked dict, its keys ints and texts or tuples of these -/
section
variable {P : Program} {w : World} {H : Hp} {h : Heap} {a : Addr}
end

section
variable {X : Cx} {pins : List (Addr × Obj)} {σ : St} {H : Hp} {s : Shared} {a : Addr} {y v : V} {u r : Value} {o : Option V} {A : Around} {E : Value → Shared → Prop}

end

section
variable {X : Cx} {pins : List (Addr × Obj)} {σ : St} {H : Hp} {s : Shared} {a : Addr} {kvs : List (Key × V)} {k : Key} {u : Value} {A : Around} {E : Value → Shared → Prop}
end


/-! ### readings and rules -/
section
variable {X : Cx} {o i e value : Expr} {pos pos' tpos : Pos} {td ty tv : TE}
end


/-! ### displays -/
section
variable {X : Cx} {pos : Pos}
end

/-! ### methods -/
section
variable {X : Cx} {pins : List (Addr × Obj)} {σ : St} {H : Hp} {s : Shared} {a : Addr} {y d : V} {u r : Value} {o : Option V} {A : Around} {E : Value → Shared → Prop}
end

section
variable {X : Cx} {o e f : Expr} {apos cpos : Pos} {td ty tx : TE}
end

/-! ### dict(d): a copy -/
section
variable {X : Cx} {pins : List (Addr × Obj)} {σ : St} {H : Hp} {s : Shared} {a : Addr} {kvs : List (Key × V)} {A : Around} {E : Value → Shared → Prop}
end


section
variable {X : Cx} {pins : List (Addr × Obj)} {σ : St} {H : Hp} {s : Shared} {a : Addr} {y : V} {u : Value} {A : Around} {E : Value → Shared → Prop}
end
end L2

namespace L2
open PySem PySem.Spec PyProof.Rows
/-! ### d.setdefault(k, x), the keys tuples -/
section
variable {prog : Program} {w : World} {A : Around} {E : Value → Shared → Prop} {s : Shared} {κ : Type} [DecidableEq κ] {kd : HeapKind prog w κ}
end
section
variable {X : Cx} {o e f : Expr} {apos cpos : Pos} {td ty tx : TE}
end
end L2

namespace L2
open PySem PySem.Spec PyProof.Rows
/-! ### for v in d.values(), whatever the keys -/
section
variable {prog : Program} {w : World} {A : Around} {E : Value → Shared → Prop} {s : Shared}
end
section
variable {X : Cx} {pins : List (Addr × Obj)} {σ : St} {H : Hp} {s : Shared}
/-! ### the forms one uses -/
end
end L2

namespace L2
open PySem PySem.Spec PyProof.Rows
/-! ### dict of a list of pairs, the keys tuples -/
section
variable {prog : Program} {w : World} {A : Around} {E : Value → Shared → Prop} {s : Shared}
end
end L2

namespace L2
open PySem PySem.Spec PyProof.Rows
/-! ### dict of a list of pairs: the loop, the call -/
section
variable {X : Cx} {pins : List (Addr × Obj)} {σ : St} {H : Hp}
end
end L2

namespace L2
open PySem PySem.Spec PyProof.Rows
/-! ### (x,) * n -/
end L2

namespace L2
open PySem PySem.Spec PyProof.Rows
/-! ### books: rows with their places, groups of rows -/
/-! ### what a group is -/
end L2

namespace L2
open PySem PySem.Spec PyProof.Rows
/-! ### the promises of the program's own defs about books -/
end L2

namespace L2
open PySem PySem.Spec PyProof.Rows
/-! ### rows alike and mixed: the mathematics -/
/-! ### the promises -/
/-- a rule in the heap: its word (settle or not), its sets -/
noncomputable def wordS (st : Bool) : Str := if st = true then "settle" else "deal"
noncomputable def RuleAt (H : Hp) (r : Addr) (st : Bool) (x y : Nat) : Prop := H r = some (.tup [.str (wordS st), vN x, vN y])
structure Rl where
  r : Addr
  st : Bool
  x : Nat
  y : Nat
end L2

namespace L2
open PySem PySem.Spec PyProof.Rows
/-! ### the book of a set -/
noncomputable def spRules (K : PySem.W.Frag) : Sp := fun vs H Q _ => ∃ (st : Addr) (ns : List Int) (k m n : Nat), vs = [.ref st, vN m, vN n] ∧ STF K H st ns k ∧ k ≤ 800000 ∧ ns.length ≤ 63 ∧ 1 ≤ m ∧ m ≤ 7 ∧ n ≤ 100 ∧
  ∀ (rs : List Rl) (p : Addr) (k' : Nat) (H' : Hp), rs.length = n → (∀ r ∈ rs, RuleAt H' r.r r.st r.x r.y ∧ r.x < 2 ^ m ∧ r.y < 2 ^ m) → k' ≤ k + 7 * n → H p = none → H' p = some (.lst (rs.map fun r => V.ref r.r)) → STF K H' st ns k' → But st H H' → Q (.ref p) H'
theorem hasB_tb (x k : Nat) : hasB x k = x.testBit k := by
  unfold hasB
  rw [Nat.testBit_eq_decide_div_mod_eq]
end L2

namespace L2
open PySem PySem.Spec PyProof.Rows
/-! ### tuples in lists, lists of lists compared -/
section
variable {X : Cx} {K : PySem.W.Frag} {pins : List (Addr × Obj)} {σ : St} {H : Hp} {s : Shared}
theorem vals_refs : ∀ {as : List Addr} {us : List Value}, Vals (as.map V.ref) us → us = as.map Value.ref
  | [], _, .nil => rfl
  | a :: as, _, .cons r t => by
    obtain rfl := (show _ = Value.ref a from r)
    rw [List.map_cons, vals_refs t]
end
end L2

namespace L2
open PySem PySem.Spec PyProof.Rows
/-! ### k11: what two rows show -/
end L2

namespace L2
open PySem PySem.Spec PyProof.Rows
/-! ### paths joined -/
section
variable {X : Cx} {st : Stmt} {rest : List Stmt} {t u : TS}
theorem pss_cut (P : St → Hp → Prop) (h1 : PS X st t) (h2 : PSs X rest u) : PSs X (st :: rest) (fun D σ H => t { D with nx := P } σ H ∧ ∀ σ' H', P σ' H' → u D σ' H') := by
  intro pins s σ H D I h
  refine wpAny_execs_cons (thn (h1 pins s σ H { D with nx := P } I h.1) fun f s1 q => ?_)
  cases f with
  | next =>
    obtain ⟨σ', H', I', q⟩ := q
    exact h2 pins s1 σ' H' D I' (h.2 σ' H' q)
  | ret v => exact q
  | brk => exact q
  | cont => exact q
end
/-! ### truths told one by one -/
end L2

namespace L2
open PySem PySem.Spec PyProof.Rows
/-! ### for i, x in enumerate(a list) -/
section
variable {X : Cx} {pins : List (Addr × Obj)} {σ : St} {H : Hp} {s : Shared}
noncomputable def Itn (K : PySem.W.Frag) (l : Addr) : It :=
  ⟨fun i H => ∃ xs x, SqL K H l xs ∧ xs[i]? = some x,
   fun i H v H' => ∃ t x, v = .ref t ∧ H t = none ∧ (∀ xs, SqL K H l xs → xs[i]? = some x) ∧ H' = upd H t (.tup [.int (i : Int), x]),
   fun i H => ∃ xs, SqL K H l xs ∧ xs.length ≤ i⟩
noncomputable def tnN (e it l : Addr) (i : Nat) (h : Heap) : Prop := (∃ old, IsEnum h e it (i : Int) old) ∧ h.IsListIter it l i
theorem turn_enum {P : Program} {w : World} {K : PySem.W.Frag} {es : List Expr} {n : Nat} {tp : Pos} {e it l : Addr} (hne : e ≠ it) : Turn P w K (.Tuple es n tp) (Itn K l) [e, it] e (tnN e it l) where
  mem := by simp
  obj := fun i h st c hc => by
    obtain ⟨⟨old, hE⟩, ⟨oa, ea, _, da⟩⟩ := st
    simp only [List.mem_cons, List.not_mem_nil, or_false] at hc
    rcases hc with rfl | rfl
    · exact ⟨_, hE, fun v r => by cases r⟩
    · exact ⟨_, ea, fun v r => by rw [da] at r; cases r⟩
  keep := fun i h h' st k => by
    obtain ⟨⟨old, hE⟩, ha⟩ := st
    exact ⟨⟨old, k e (by simp) _ hE⟩, ha.at fun o z => k it (by simp) o z⟩
  item := by
    intro X hP hw hK hc i pins s σ H E I hf st hg
    subst hP hw hK
    obtain ⟨xs, x, hx, ex⟩ := hg
    obtain ⟨⟨old, hE⟩, ha⟩ := st
    obtain ⟨i1, r1, t1, _⟩ := I.list hx
    obtain ⟨x', ex', rx⟩ := r1.get ex
    refine wpAny_pyNext_enum_item hE ha t1.isList (x := x') (by simpa using ex') hne fun g c1 c2 c3 c4 c5 => ⟨_, rfl, ?_⟩
    refine wpAny_letOwnedTupleGo_enum c1 fun g' z' k' => ?_
    have nT : H s.heap.objs.size = none := I.fresh
    have lz : s.heap.objs.size ≠ e := Nat.ne_of_gt (Heap.lt_size hE)
    have IA : Inv X pins σ (upd H s.heap.objs.size (.tup [.int (i : Int), x])) { s with heap := s.heap.push { cls := .type "tuple", data := .seq #[.int (i : Int) s.toks, x'] }, toks := s.toks + 1 } :=
      I.laid (t' := s.toks + 1) (fun c o z => Heap.get?_push_of_some _ z) (Nat.le_refl _) (show ObjOk X.prog X.w _ _ _ (.tup [.int (i : Int), x]) from ⟨by show 2 ≤ sizeLine; decide, [.int (i : Int) s.toks, x'], .cons ⟨_, rfl⟩ (.cons rx .nil), ⟨_, Heap.get?_push_size _ rfl, rfl, _, rfl⟩⟩)
    have fp : ∀ c ∈ [e, it], FpOk X pins (upd H s.heap.objs.size (.tup [.int (i : Int), x])) c := fun c hc' => by
      obtain ⟨f0, f1, f2, f3, f4, f5⟩ := hf c hc'
      refine ⟨?_, f1, f2, f3, f4, f5⟩
      rw [upd_ne]
      · exact f0
      · have lt : c < s.heap.objs.size := by
          simp only [List.mem_cons, List.not_mem_nil, or_false] at hc'
          rcases hc' with rfl | rfl
          · exact Heap.lt_size hE
          · obtain ⟨_, z, _⟩ := ha; exact Heap.lt_size z
        exact Nat.ne_of_lt lt
    have IB : Inv X pins σ (upd H s.heap.objs.size (.tup [.int (i : Int), x])) { s with heap := g', toks := s.toks + 1 } := by
      refine IA.turnedL (t' := s.toks + 1) (h' := g') (fun c o hc' z => ?_) fp
      simp only [List.mem_cons, List.not_mem_nil, or_false, not_or] at hc'
      refine k'.extBut _ _ hc'.1 ?_
      by_cases hcT : c = s.heap.objs.size
      · subst hcT
        have e1 : (s.heap.push { cls := .type "tuple", data := .seq #[.int (i : Int) s.toks, x'] }).get? s.heap.objs.size = some { cls := .type "tuple", data := .seq #[.int (i : Int) s.toks, x'] } := Heap.get?_push_size _ rfl
        have e2 := e1.symm.trans z
        rw [← Option.some.inj e2]
        exact c3
      · exact c5 c o hc'.1 hc'.2 (by
          have e1 : (s.heap.push { cls := .type "tuple", data := .seq #[.int (i : Int) s.toks, x'] }).get? c = s.heap.get? c := Heap.get?_push_ne _ _ _ hcT
          rw [← e1]; exact z)
    refine ⟨.ref s.heap.objs.size, _, IB, rfl, ⟨_, x, rfl, nT, fun zs hz => by rw [I.list_inj hz hx]; exact ex, rfl⟩, ⟨⟨x', ?_⟩, c2.extBut k'.extBut hne.symm⟩, fun c hc' => (fp c hc').1⟩
    have ei : ((i + 1 : Nat) : Int) = (i : Int) + 1 := Int.natCast_succ i
    rw [ei]
    exact z'
  done := by
    intro X hP hw hK hc i pins s σ H E I hf st hg
    subst hP hw hK
    obtain ⟨xs, hx, hl⟩ := hg
    obtain ⟨⟨old, hE⟩, ha⟩ := st
    obtain ⟨i1, r1, t1, _⟩ := I.list hx
    have len := r1.length
    refine wpAny_pyNext_enum_end (I.ok.hd hc) hE ha t1.isList (by simp; omega) fun g hk => ⟨rfl, ?_⟩
    refine I.turnedL (t' := s.toks) (h' := g) (ch := [e, it]) (fun c o hc' z => ?_) hf
    simp only [List.mem_cons, List.not_mem_nil, or_false, not_or] at hc'
    exact hk c o hc'.2 z
  self := fun _ _ _ _ _ st h => by
    obtain ⟨⟨old, hE⟩, _⟩ := st
    exact wpAny_pyIter_enum hE h
noncomputable def iEnum (K : PySem.W.Frag) (ta : TA) : TI := fun σ H R => ta σ H fun vs H1 => ∃ (l : Addr) (xs : List V), vs = [.ref l] ∧ SqL K H1 l xs ∧ R (Itn K l) H1
theorem pi_enum {K : PySem.W.Frag} {es : List Expr} {n : Nat} {tp : Pos} {e1 : Expr} {ta : TA} {np pos : Pos} (hK : X.K = K) (hg : Gl X "enumerate") (hm : X.mg "enumerate" = none) (ha : PA X [e1] ta)
    (hs : starEach [e1] X.env = [(false, eval e1 X.env)] := by rfl) :
    PI X (.Tuple es n tp) (.Call (.Name "enumerate" np) [e1] [] pos) (iEnum K ta) := by
  subst hK
  intro pins s σ H R I h
  refine Call_ (ld_blt I hg hm boot_enumerate (PyProof.Rows.callWith_type1 (thn (ha pos pins s σ H _ I h) fun us s1 ⟨vs, H1, I1, r1, q1⟩ => ?_) (by rw [hs]; rfl) (by rfl)))
  obtain ⟨l, xs, rfl, hl, r⟩ := q1
  obtain ⟨u1, rfl, ru1⟩ := r1.one
  cases ru1
  obtain ⟨i1, v1, t1, _⟩ := I1.list hl
  refine call_enumerate_list t1.isList fun g hE hi hz hk => ?_
  refine wpAny_pyIter_enum hE ⟨s1.heap.objs.size + 1, [s1.heap.objs.size + 1, s1.heap.objs.size], tnN (s1.heap.objs.size + 1) s1.heap.objs.size l, Itn X.K l, H1, rfl, I1.kept (t' := s1.toks) hk, turn_enum (Nat.succ_ne_self _), ⟨⟨_, hE⟩, hi⟩, fun c hc => ?_, r⟩
  have lc : s1.heap.objs.size ≤ c := by
    simp only [List.mem_cons, List.not_mem_nil, or_false] at hc
    rcases hc with rfl | rfl <;> omega
  exact I1.fpOk lc (I1.hok.fresh lc)
theorem for_enum {K : PySem.W.Frag} {l : Addr} {xs : List V} {g : TG} {tb : TS} {D : Ends} {σ : St} {H : Hp} (Pv : Nat → St → Hp → Prop) (h0 : Pv 0 σ H) (hl : ∀ i σ H, i ≤ xs.length → Pv i σ H → SqL K H l xs)
    (hs : ∀ i x σ H t, xs[i]? = some x → Pv i σ H → H t = none → g (.ref t) σ (upd H t (.tup [.int (i : Int), x])) fun σ2 H2 => tb { D with nx := Pv (i + 1), ct := Pv (i + 1), bk := D.nx } σ2 H2) (hd : ∀ σ H, Pv xs.length σ H → D.nx σ H) :
    ∃ W : Nat → Nat → St → Hp → Prop, (∃ m, W 0 m σ H) ∧ ∀ i m σ H, W i m σ H →
      ((Itn K l).stop i H ∧ D.nx σ H) ∨ ((Itn K l).go i H ∧ ∃ N : St → Hp → Prop, (∀ σ' H', N σ' H' → ∃ m', m' < m ∧ W (i + 1) m' σ' H') ∧ ∀ x H', (Itn K l).yld i H x H' → g x σ H' fun σ2 H2 => tb { D with nx := N, ct := N, bk := D.nx } σ2 H2) := by
  refine ⟨fun i m σ H => m = xs.length - i ∧ i ≤ xs.length ∧ Pv i σ H, ⟨xs.length, by simp, Nat.zero_le _, h0⟩, ?_⟩
  rintro i m σ H ⟨rfl, hi, pv⟩
  have h1 := hl i σ H hi pv
  by_cases lt : i < xs.length
  · refine .inr ⟨⟨xs, xs[i], h1, by simp [lt]⟩, Pv (i + 1), fun σ' H' p' => ⟨xs.length - (i + 1), by omega, rfl, lt, p'⟩, fun v H' yv => ?_⟩
    obtain ⟨t, x, rfl, nt, a3, rfl⟩ := yv
    exact hs i x σ H t (a3 xs h1) pv nt
  · obtain rfl : i = xs.length := by omega
    exact .inl ⟨⟨xs, h1, Nat.le_refl _⟩, hd σ H pv⟩
end
end L2

namespace L2
open PySem PySem.Spec PyProof.Rows
/-! ### == and != of values told as data -/
mutual
inductive DV (K : PySem.W.Frag) (H : Hp) : V → PyData → Prop
  | non : DV K H .non .none
  | bl (b : Bool) : DV K H (.bl b) (.bool b)
  | int (i : Int) : DV K H (.int i) (.int i)
  | str (x : Str) : DV K H (.str x) (.str x)
  | lst {a : Addr} {xs : List V} {ds : List PyData} : SqL K H a xs → DVs K H xs ds → DV K H (.ref a) (.list ds)
  | tup {a : Addr} {xs : List V} {ds : List PyData} : SqT K H a xs → DVs K H xs ds → DV K H (.ref a) (.tuple ds)
inductive DVs (K : PySem.W.Frag) (H : Hp) : List V → List PyData → Prop
  | nil : DVs K H [] []
  | cons {x : V} {xs : List V} {d : PyData} {ds : List PyData} : DV K H x d → DVs K H xs ds → DVs K H (x :: xs) (d :: ds)
end
section
variable {X : Cx} {K : PySem.W.Frag} {pins : List (Addr × Obj)} {σ : St} {H : Hp} {s : Shared}
mutual
theorem DV.reads (I : Inv X pins σ H s) : ∀ {v : V} {d : PyData} {u : Value}, DV X.K H v d → RelV v u → ∃ as, Reads s.heap u d as
  | _, _, _, .non, r => by obtain rfl := (show _ = Value.none from r); exact ⟨_, Reads.none⟩
  | _, _, _, .bl b, r => by obtain rfl := (show _ = Value.bool b from r); exact ⟨_, Reads.bool b⟩
  | _, _, _, .int i, r => by obtain ⟨t, rfl⟩ := r; exact ⟨_, .int i t⟩
  | _, _, _, .str x, r => by obtain ⟨t, rfl⟩ := r; exact ⟨_, .str x t⟩
  | _, _, _, .lst (a := a) hx hs, r => by
    obtain rfl := (show _ = Value.ref a from r)
    obtain ⟨its, rv, pl, _⟩ := I.list hx
    obtain ⟨as, ra⟩ := DVs.reads I hs rv
    obtain ⟨o, ho, hc, n, hd⟩ := pl.isList
    exact ⟨_, .list ho hc hd ra⟩
  | _, _, _, .tup (a := a) hx hs, r => by
    obtain rfl := (show _ = Value.ref a from r)
    obtain ⟨its, rv, pl, _⟩ := I.tuple hx
    obtain ⟨as, ra⟩ := DVs.reads I hs rv
    obtain ⟨o, ho, hc, n, hd⟩ := pl
    exact ⟨_, .tuple ho hc hd ra⟩
theorem DVs.reads (I : Inv X pins σ H s) : ∀ {vs : List V} {ds : List PyData} {us : List Value}, DVs X.K H vs ds → Vals vs us → ∃ as, ReadsAll s.heap us ds as
  | _, _, _, .nil, .nil => ⟨_, .nil⟩
  | _, _, _, .cons h hs, .cons r rs => by
    obtain ⟨as, ra⟩ := DV.reads I h r
    obtain ⟨bs, rb⟩ := DVs.reads I hs rs
    exact ⟨_, .cons ra rb⟩
end
noncomputable def rEqD (K : PySem.W.Frag) (neg : Bool) : R2 := fun x y H Q => ∃ d1 d2 : PyData, DV K H x d1 ∧ DV K H y d2 ∧ SeqAt.shaped d1 = true ∧ SeqAt.shaped d2 = true ∧ SeqAt.noMix d1 d2 = true ∧ Q (.bl (if neg then !same d1 d2 else same d1 d2)) H
theorem op_neD (h : X.K = K) (hu : X.A.units + 64 < cLine) : OpR X (compareOp .NotEq) (rEqD K true) := by
  subst h
  intro pins s σ H x y v u Q I rx ry h
  obtain ⟨d1, d2, h1, h2, s1, s2, nm, q⟩ := h
  obtain ⟨as, ra⟩ := h1.reads I rx
  obtain ⟨bs, rb⟩ := h2.reads I ry
  exact ne_dataH_same ra rb s1 s2 hu nm ⟨.bl _, H, I, rfl, q⟩
end
/-! lists of data of one form -/
section
variable {α : Type} {f : α → PyData}
theorem sameAll_map [DecidableEq α] (h : ∀ a b, same (f a) (f b) = decide (a = b)) : ∀ xs ys : List α, sameAll (xs.map f) (ys.map f) = decide (xs = ys)
  | [], [] => by simp [sameAll]
  | [], _ :: _ => by simp [sameAll]
  | _ :: _, [] => by simp [sameAll]
  | x :: xs, y :: ys => by
    simp only [List.map_cons, sameAll, h, sameAll_map h xs ys]
    by_cases e : x = y <;> simp [e]
theorem noMixAll_map (h : ∀ a b, SeqAt.noMix (f a) (f b) = true) : ∀ xs ys : List α, SeqAt.noMixAll (xs.map f) (ys.map f) = true
  | [], [] => by simp [SeqAt.noMixAll]
  | [], _ :: _ => by simp [SeqAt.noMixAll]
  | _ :: _, [] => by simp [SeqAt.noMixAll]
  | x :: xs, y :: ys => by simp [SeqAt.noMixAll, h, noMixAll_map h xs ys]
theorem canLayAll_map (h : ∀ a, PyData.canLay0 (f a) = true) : ∀ xs : List α, PyData.canLayAll0 (xs.map f) = true
  | [] => by simp [PyData.canLayAll0]
  | x :: xs => by simp [PyData.canLayAll0, h, canLayAll_map h xs]
theorem depthAll_map {n : Nat} (h : ∀ a, PyData.depth (f a) ≤ n) : ∀ xs : List α, PyData.depthAll (xs.map f) ≤ n
  | [] => by simp [PyData.depthAll]
  | x :: xs => by
    have h1 := h x
    have h2 := depthAll_map h xs
    simp only [List.map_cons, PyData.depthAll]
    omega
theorem shaped_map (h : ∀ a, PyData.canLay0 (f a) = true) (hd : ∀ a, PyData.depth (f a) ≤ 10) (xs : List α) : SeqAt.shaped (.list (xs.map f)) = true := by
  have h2 : PyData.depth (.list (xs.map f)) ≤ 64 := by
    have := depthAll_map hd xs
    simp only [PyData.depth]
    omega
  show (PyData.canLay0 (.list (xs.map f)) && decide (PyData.depth (.list (xs.map f)) ≤ 64)) = true
  rw [Bool.and_eq_true]
  exact ⟨by simp only [PyData.canLay0]; exact canLayAll_map h xs, decide_eq_true h2⟩
end
/-- pairs of ints -/
noncomputable def dP (p : Int × Int) : PyData := .tuple [.int p.1, .int p.2]
theorem same_dP (a b : Int × Int) : same (dP a) (dP b) = decide (a = b) := by
  unfold dP
  simp only [same, sameAll]
  obtain ⟨a1, a2⟩ := a
  obtain ⟨b1, b2⟩ := b
  by_cases h1 : a1 = b1 <;> by_cases h2 : a2 = b2 <;> simp [h1, h2]
theorem noMix_dP (a b : Int × Int) : SeqAt.noMix (dP a) (dP b) = true := by unfold dP; simp [SeqAt.noMix, SeqAt.noMixAll]
theorem canLay_dP (a : Int × Int) : PyData.canLay0 (dP a) = true := by unfold dP; simp [PyData.canLay0, PyData.canLayAll0]
theorem depth_dP (a : Int × Int) : PyData.depth (dP a) ≤ 10 := by unfold dP; simp [PyData.depth, PyData.depthAll]
/-- rules -/
noncomputable def dR (r : Bool × Nat × Nat) : PyData := .tuple [.str (wordS r.1), .int (r.2.1 : Int), .int (r.2.2 : Int)]
theorem noMix_dR (a b : Bool × Nat × Nat) : SeqAt.noMix (dR a) (dR b) = true := by unfold dR; simp [SeqAt.noMix, SeqAt.noMixAll]
theorem canLay_dR (a : Bool × Nat × Nat) : PyData.canLay0 (dR a) = true := by
  unfold dR
  obtain ⟨b, x, y⟩ := a
  have h1 : PyData.strOk (wordS true) = true := by decide +kernel
  have h2 : PyData.strOk (wordS false) = true := by decide +kernel
  cases b <;> simp only [PyData.canLay0, PyData.canLayAll0, h1, h2, Bool.and_true]
theorem depth_dR (a : Bool × Nat × Nat) : PyData.depth (dR a) ≤ 10 := by unfold dR; simp [PyData.depth, PyData.depthAll]
/-! xs[::-1] -/
section
variable {X : Cx} {K : PySem.W.Frag} {e : Expr} {te : TE} {ste : Expr} {tst : TO} {pos p2 : Pos}
end
/-! slices told in naturals -/
theorem cut_take (xs : List V) (k : Nat) : cutV xs none (some (k : Int)) = xs.take k := by
  unfold cutV
  show (xs.drop 0).take (HT.sIx xs.length xs.length (some ((k : Nat) : Int)) - 0) = _
  rw [HT.sIx_nat, List.drop_zero, Nat.sub_zero, List.take_eq_take_iff]
  omega
theorem cut_drop (xs : List V) (k : Nat) : cutV xs (some (k : Int)) none = xs.drop k := by
  unfold cutV
  rw [HT.sIx_nat, HT.sIx_none]
  by_cases h : k ≤ xs.length
  · rw [Nat.min_eq_left h, List.take_of_length_le (by rw [List.length_drop]; exact Nat.le_refl _)]
  · rw [Nat.min_eq_right (by omega), List.drop_eq_nil_of_le (Nat.le_refl _), List.drop_eq_nil_of_le (by omega), List.take_nil]
end L2

namespace L2
open PySem PySem.Spec PyProof.Rows
theorem Same.none {H H' : Hp} {p : Addr} (e : Same H H') (h : H' p = none) : H p = none := by
  cases z : H p with
  | none => rfl
  | some o => rw [e _ _ z] at h; cases h
/-! ### stage 2's laws: what their shared defs promise -/
noncomputable def usableB (st : Bool) (x y b : Nat) : Bool := decide (x &&& b = 0) && !decide (y &&& b = 0) && (st || !decide (y &&& b = b))
noncomputable def spUsable : Sp := fun vs H Q _ => ∃ (r : Addr) (st : Bool) (x y b : Nat), vs = [.ref r, vN b] ∧ RuleAt H r st x y ∧ Q (.bl (usableB st x y b)) H
noncomputable def inN (y : Nat) (bs : List Nat) (at_ : Nat) : Nat := bs.getD at_ 0 &&& y
noncomputable def outN (y : Nat) (bs : List Nat) (at_ : Nat) : Nat := bs.getD at_ 0 - inN y bs at_
noncomputable def behindFx (st : Bool) (y fx : Nat) (bs : List Nat) (at_ : Nat) : Nat := if st = true then fx + inN y bs at_ else fx
noncomputable def behindBs (st : Bool) (y : Nat) (bs : List Nat) (at_ : Nat) : List Nat :=
  bs.take at_ ++ (if st = true then (if 0 < outN y bs at_ then [outN y bs at_] else []) else [inN y bs at_, outN y bs at_]) ++ bs.drop (at_ + 1)
end L2

namespace L2
/-! ### why a draw by 48271 comes to a multiple of four -/
end L2

namespace L2
/-! ### the mathematics of unfolding -/
theorem or_add : ∀ (a b : Nat), a &&& b = 0 → a ||| b = a + b := by
  intro a
  induction a using Nat.strongRecOn with
  | _ a ih =>
    intro b h
    by_cases a0 : a = 0
    · subst a0; simp
    have i := ih (a / 2) (by omega) (b / 2) (by rw [← Nat.and_div_two, h])
    rw [← Nat.or_div_two] at i
    have m1 := Nat.and_mod_two_eq_one (a := a) (b := b)
    have m2 := Nat.or_mod_two_eq_one (a := a) (b := b)
    rw [h] at m1
    omega
theorem dis_iff {a b : Nat} : a &&& b = 0 ↔ ∀ k, a.testBit k = true → b.testBit k = false := by
  constructor
  · intro h k ha
    have e : (a &&& b).testBit k = (0 : Nat).testBit k := by rw [h]
    rw [Nat.testBit_and, Nat.zero_testBit, ha, Bool.true_and] at e
    exact e
  · intro h
    refine Nat.eq_of_testBit_eq fun k => ?_
    rw [Nat.testBit_and, Nat.zero_testBit]
    cases ha : a.testBit k with
    | false => rfl
    | true => rw [h k ha]; rfl
theorem dis_comm {a b : Nat} (h : a &&& b = 0) : b &&& a = 0 := by rw [Nat.and_comm]; exact h
noncomputable def SubN (c b : Nat) : Prop := ∀ k, c.testBit k = true → b.testBit k = true
theorem dis_sub {a b c : Nat} (h : a &&& b = 0) (s : SubN c b) : a &&& c = 0 := dis_iff.mpr fun k ha => by
  cases hc : c.testBit k with
  | false => rfl
  | true => have := dis_iff.mp h k ha; rw [s k hc] at this; exact this
theorem dis_sub' {a b c : Nat} (h : b &&& a = 0) (s : SubN c b) : c &&& a = 0 := dis_comm (dis_sub (dis_comm h) s)
theorem sub_xor (b y : Nat) : b - (b &&& y) = b ^^^ (b &&& y) := by
  have h0 : (b ^^^ (b &&& y)) &&& (b &&& y) = 0 := dis_iff.mpr fun k h => by
    rw [Nat.testBit_xor, Nat.testBit_and] at h
    rw [Nat.testBit_and]
    cases hb : b.testBit k <;> cases hy : y.testBit k <;> rw [hb, hy] at h <;> first | rfl | (simp at h)
  have h1 : (b ^^^ (b &&& y)) ||| (b &&& y) = b := by
    refine Nat.eq_of_testBit_eq fun k => ?_
    rw [Nat.testBit_or, Nat.testBit_xor, Nat.testBit_and]
    cases hb : b.testBit k <;> cases hy : y.testBit k <;> rfl
  have h2 := or_add _ _ h0
  omega
theorem tb_out (b y k : Nat) : (b - (b &&& y)).testBit k = (b.testBit k && !y.testBit k) := by
  rw [sub_xor, Nat.testBit_xor, Nat.testBit_and]
  cases b.testBit k <;> cases y.testBit k <;> rfl
theorem sub_in (b y : Nat) : SubN (b &&& y) b := fun k h => by
  rw [Nat.testBit_and, Bool.and_eq_true] at h
  exact h.1
theorem sub_out (b y : Nat) : SubN (b - (b &&& y)) b := fun k h => by
  rw [tb_out, Bool.and_eq_true] at h
  exact h.1
theorem dis_in_out (b y : Nat) : (b &&& y) &&& (b - (b &&& y)) = 0 := dis_iff.mpr fun k h => by
  rw [Nat.testBit_and, Bool.and_eq_true] at h
  rw [tb_out, h.1, h.2]; rfl
theorem full_dis {m x : Nat} (h : x < 2 ^ m) : x &&& (2 ^ m - 1 - x) = 0 := dis_iff.mpr fun k hk => by
  have e : 2 ^ m - 1 - x = 2 ^ m - (x + 1) := by omega
  rw [e, Nat.testBit_two_pow_sub_succ h, hk]
  simp
structure Good (m fx : Nat) (bs : List Nat) : Prop where
  sum : fx + bs.sum = 2 ^ m - 1
  pos : ∀ b ∈ bs, 0 < b
  dis : ∀ b ∈ bs, fx &&& b = 0
  pw : bs.Pairwise fun a b => a &&& b = 0
theorem len_sum : ∀ {bs : List Nat}, (∀ b ∈ bs, 0 < b) → bs.length ≤ bs.sum
  | [], _ => Nat.le_refl _
  | b :: bs, h => by
    have h1 := h b (List.mem_cons_self ..)
    have h2 := len_sum (bs := bs) fun c hc => h c (List.mem_cons_of_mem _ hc)
    rw [List.length_cons, List.sum_cons]
    omega
theorem pow7 {m : Nat} (h : m ≤ 7) : 2 ^ m ≤ 128 := Nat.pow_le_pow_right (by decide) h
theorem Good.len {m fx : Nat} {bs : List Nat} (g : Good m fx bs) (h : m ≤ 7) : bs.length ≤ 127 := by
  have h1 := len_sum g.pos
  have h2 := g.sum
  have h3 := pow7 h
  omega
theorem split_at {bs : List Nat} {i : Nat} (h : i < bs.length) : bs = bs.take i ++ bs.getD i 0 :: bs.drop (i + 1) := by
  have e : bs.getD i 0 = bs[i] := by rw [List.getD_eq_getElem?_getD, List.getElem?_eq_getElem h]; rfl
  rw [e, ← List.drop_eq_getElem_cons h, List.take_append_drop]
theorem usable_in {st : Bool} {x y b : Nat} (h : usableB st x y b = true) : x &&& b = 0 ∧ 0 < b &&& y ∧ (st = true ∨ b &&& y < b) := by
  unfold usableB at h
  rw [Bool.and_eq_true, Bool.and_eq_true] at h
  obtain ⟨⟨h1, h2⟩, h3⟩ := h
  have e1 := of_decide_eq_true h1
  have e2 : ¬ (y &&& b = 0) := by
    intro z; rw [decide_eq_true z] at h2; cases h2
  rw [Nat.and_comm] at e2
  refine ⟨e1, by omega, ?_⟩
  rw [Bool.or_eq_true] at h3
  rcases h3 with h3 | h3
  · exact .inl h3
  · right
    have e3 : ¬ (y &&& b = b) := by
      intro z; rw [decide_eq_true z] at h3; cases h3
    rw [Nat.and_comm] at e3
    have := Nat.and_le_left (n := b) (m := y)
    omega
theorem Good.use {m fx : Nat} {bs : List Nat} (g : Good m fx bs) {st : Bool} {x y i : Nat} (hi : i < bs.length) (hu : usableB st x y (bs.getD i 0) = true) :
    Good m (behindFx st y fx bs i) (behindBs st y bs i) ∧ 2 * (behindBs st y bs i).sum - (behindBs st y bs i).length < 2 * bs.sum - bs.length := by
  obtain ⟨_, hin, hout⟩ := usable_in hu
  have e := split_at hi
  have ls := len_sum g.pos
  unfold behindFx behindBs outN inN
  generalize bs.getD i 0 = b at e hin hout
  generalize bs.take i = p at e
  generalize bs.drop (i + 1) = q at e
  subst e
  have le : b &&& y ≤ b := Nat.and_le_left
  obtain ⟨sm, ps, ds, pw⟩ := g
  have hb : b ∈ p ++ b :: q := List.mem_append_right _ (List.mem_cons_self ..)
  have hp : ∀ c ∈ p, c ∈ p ++ b :: q := fun c hc => List.mem_append_left _ hc
  have hq : ∀ c ∈ q, c ∈ p ++ b :: q := fun c hc => List.mem_append_right _ (List.mem_cons_of_mem _ hc)
  have db := ds b hb
  rw [List.pairwise_append, List.pairwise_cons] at pw
  obtain ⟨pp, ⟨bq, qq⟩, pq⟩ := pw
  have pb : ∀ c ∈ p, c &&& b = 0 := fun c hc => pq c hc b (List.mem_cons_self ..)
  have pq' : ∀ c ∈ p, ∀ d ∈ q, c &&& d = 0 := fun c hc d hd => pq c hc d (List.mem_cons_of_mem _ hd)
  have sm' : (p ++ b :: q).sum = p.sum + (b + q.sum) := by rw [List.sum_append, List.sum_cons]
  have ln' : (p ++ b :: q).length = p.length + (q.length + 1) := by rw [List.length_append, List.length_cons]
  rw [sm'] at sm ls
  rw [sm', ln']
  rw [ln'] at ls
  have lp : p.length ≤ p.sum := len_sum fun c hc => ps c (hp c hc)
  have lq : q.length ≤ q.sum := len_sum fun c hc => ps c (hq c hc)
  have orfx : ∀ c, fx &&& c = 0 → (b &&& y) &&& c = 0 → (fx + (b &&& y)) &&& c = 0 := fun c h1 h2 => by
    rw [← or_add _ _ (dis_sub db (sub_in b y))]
    refine dis_iff.mpr fun k hk => ?_
    rw [Nat.testBit_or, Bool.or_eq_true] at hk
    rcases hk with hk | hk
    · exact dis_iff.mp h1 k hk
    · exact dis_iff.mp h2 k hk
  have inp : ∀ c ∈ p, (b &&& y) &&& c = 0 := fun c hc => dis_comm (dis_sub (pb c hc) (sub_in b y))
  have inq : ∀ c ∈ q, (b &&& y) &&& c = 0 := fun c hc => dis_sub' (bq c hc) (sub_in b y)
  have outp : ∀ c ∈ p, c &&& (b - (b &&& y)) = 0 := fun c hc => dis_sub (pb c hc) (sub_out b y)
  have outq : ∀ c ∈ q, (b - (b &&& y)) &&& c = 0 := fun c hc => dis_sub' (bq c hc) (sub_out b y)
  cases st with
  | true =>
    simp only [if_true]
    by_cases ho : 0 < b - (b &&& y)
    · rw [if_pos ho]
      refine ⟨⟨?_, ?_, ?_, ?_⟩, ?_⟩
      · rw [List.append_assoc, List.sum_append, List.singleton_append, List.sum_cons]; omega
      · intro c hc
        rcases List.mem_append.mp hc with hc | hc
        · rcases List.mem_append.mp hc with hc | hc
          · exact ps c (hp c hc)
          · rw [List.mem_singleton.mp hc]; exact ho
        · exact ps c (hq c hc)
      · intro c hc
        rcases List.mem_append.mp hc with hc | hc
        · rcases List.mem_append.mp hc with hc | hc
          · exact orfx c (ds c (hp c hc)) (inp c hc)
          · rw [List.mem_singleton.mp hc]; exact orfx _ (dis_sub db (sub_out b y)) (dis_in_out b y)
        · exact orfx c (ds c (hq c hc)) (inq c hc)
      · rw [List.append_assoc, List.singleton_append, List.pairwise_append, List.pairwise_cons]
        refine ⟨pp, ⟨outq, qq⟩, fun c hc d hd => ?_⟩
        rcases List.mem_cons.mp hd with rfl | hd
        · exact outp c hc
        · exact pq' c hc d hd
      · rw [List.append_assoc, List.sum_append, List.singleton_append, List.sum_cons, List.length_append, List.length_cons]; omega
    · rw [if_neg ho, List.append_nil]
      refine ⟨⟨?_, ?_, ?_, ?_⟩, ?_⟩
      · rw [List.sum_append]; omega
      · intro c hc
        rcases List.mem_append.mp hc with hc | hc
        · exact ps c (hp c hc)
        · exact ps c (hq c hc)
      · intro c hc
        rcases List.mem_append.mp hc with hc | hc
        · exact orfx c (ds c (hp c hc)) (inp c hc)
        · exact orfx c (ds c (hq c hc)) (inq c hc)
      · rw [List.pairwise_append]
        exact ⟨pp, qq, pq'⟩
      · rw [List.sum_append, List.length_append]; omega
  | false =>
    have ho : 0 < b - (b &&& y) := by
      rcases hout with h | h
      · cases h
      · omega
    simp only [Bool.false_eq_true, if_false]
    rw [List.append_assoc, List.cons_append, List.cons_append, List.nil_append]
    refine ⟨⟨?_, ?_, ?_, ?_⟩, ?_⟩
    · rw [List.sum_append, List.sum_cons, List.sum_cons]; omega
    · intro c hc
      rcases List.mem_append.mp hc with hc | hc
      · exact ps c (hp c hc)
      · rcases List.mem_cons.mp hc with rfl | hc
        · exact hin
        · rcases List.mem_cons.mp hc with rfl | hc
          · exact ho
          · exact ps c (hq c hc)
    · intro c hc
      rcases List.mem_append.mp hc with hc | hc
      · exact ds c (hp c hc)
      · rcases List.mem_cons.mp hc with rfl | hc
        · exact dis_sub db (sub_in b y)
        · rcases List.mem_cons.mp hc with rfl | hc
          · exact dis_sub db (sub_out b y)
          · exact ds c (hq c hc)
    · rw [List.pairwise_append, List.pairwise_cons, List.pairwise_cons]
      refine ⟨pp, ⟨fun d hd => ?_, outq, qq⟩, fun c hc d hd => ?_⟩
      · rcases List.mem_cons.mp hd with rfl | hd
        · exact dis_in_out b y
        · exact inq d hd
      · rcases List.mem_cons.mp hd with rfl | hd
        · exact dis_comm (inp c hc)
        · rcases List.mem_cons.mp hd with rfl | hd
          · exact outp c hc
          · exact pq' c hc d hd
    · rw [List.sum_append, List.sum_cons, List.sum_cons, List.length_append, List.length_cons, List.length_cons]; omega
/-- the blocks at the beginning -/
noncomputable def beginBs (m x : Nat) : List Nat := if x < 2 ^ m - 1 then [2 ^ m - 1 - x] else []
theorem Good.begin {m x : Nat} (h : x < 2 ^ m) : Good m x (beginBs m x) := by
  unfold beginBs
  split
  · refine ⟨by simp; omega, fun b hb => ?_, fun b hb => ?_, List.pairwise_singleton _ _⟩
    · rw [List.mem_singleton.mp hb]; omega
    · rw [List.mem_singleton.mp hb]; exact full_dis h
  · exact ⟨by simp; omega, fun b hb => absurd hb List.not_mem_nil, fun b hb => absurd hb List.not_mem_nil, List.Pairwise.nil⟩
/-! uses, in their order -/
noncomputable abbrev RD := Bool × Nat × Nat
noncomputable def usB (r : RD) (b : Nat) : Bool := usableB r.1 r.2.1 r.2.2 b
noncomputable def usesR (r : RD) (k : Nat) (bs : List Nat) (n : Nat) : List (Nat × Nat) := ((List.range n).filter fun a => usB r (bs.getD a 0)).map fun a => (k, a)
noncomputable def rdAt (rs : List RD) (k : Nat) : RD := rs.getD k (false, 0, 0)
noncomputable def usesN (rs : List RD) (bs : List Nat) (i : Nat) : List (Nat × Nat) := (List.range i).flatMap fun k => usesR (rdAt rs k) k bs bs.length
theorem usesR_succ (r : RD) (k : Nat) (bs : List Nat) (n : Nat) : usesR r k bs (n + 1) = usesR r k bs n ++ (if usB r (bs.getD n 0) = true then [(k, n)] else []) := by
  unfold usesR
  rw [List.range_succ, List.filter_append, List.map_append]
  congr 1
  cases h : usB r (bs.getD n 0) <;> simp only [List.filter_cons, List.filter_nil, h] <;> rfl
theorem usesN_succ (rs : List RD) (bs : List Nat) (i : Nat) : usesN rs bs (i + 1) = usesN rs bs i ++ usesR (rdAt rs i) i bs bs.length := by
  unfold usesN
  rw [List.range_succ, List.flatMap_append, List.flatMap_cons, List.flatMap_nil, List.append_nil]
theorem mem_usesR {r : RD} {k n : Nat} {bs : List Nat} {u : Nat × Nat} (h : u ∈ usesR r k bs n) : u.1 = k ∧ u.2 < n ∧ usB r (bs.getD u.2 0) = true := by
  unfold usesR at h
  obtain ⟨a, ha, rfl⟩ := List.mem_map.mp h
  obtain ⟨h1, h2⟩ := List.mem_filter.mp ha
  exact ⟨rfl, List.mem_range.mp h1, h2⟩
theorem mem_usesN {rs : List RD} {bs : List Nat} {i : Nat} {u : Nat × Nat} (h : u ∈ usesN rs bs i) : u.1 < i ∧ u.2 < bs.length ∧ usB (rdAt rs u.1) (bs.getD u.2 0) = true := by
  unfold usesN at h
  obtain ⟨k, hk, hu⟩ := List.mem_flatMap.mp h
  obtain ⟨rfl, h2, h3⟩ := mem_usesR hu
  exact ⟨List.mem_range.mp hk, h2, h3⟩
/-! a run -/
structure US where
  fx : Nat
  bs : List Nat
  st : List (Nat × Nat)
noncomputable def stepS (rs : List RD) (s : US) (u : Nat × Nat) : US :=
  ⟨behindFx (rdAt rs u.1).1 (rdAt rs u.1).2.2 s.fx s.bs u.2, behindBs (rdAt rs u.1).1 (rdAt rs u.1).2.2 s.bs u.2, s.st ++ [(u.1, s.bs.getD u.2 0)]⟩
inductive Run (rs : List RD) : US → US → Prop
  | done {s : US} : usesN rs s.bs rs.length = [] → Run rs s s
  | step {s t : US} {u : Nat × Nat} {us : List (Nat × Nat)} : usesN rs s.bs rs.length = u :: us → Run rs (stepS rs s u) t → Run rs s t
theorem Run.det {rs : List RD} {s t : US} (h : Run rs s t) : ∀ {t' : US}, Run rs s t' → t = t' := by
  induction h with
  | done h =>
    intro t' h'
    cases h' with
    | done _ => rfl
    | step e _ => rw [h] at e; cases e
  | step e _ ih =>
    intro t' h'
    cases h' with
    | done h => rw [h] at e; cases e
    | step e' r' =>
      rw [e] at e'
      injection e' with e1 e2
      subst e1
      exact ih r'
noncomputable def muS (bs : List Nat) : Nat := 2 * bs.sum - bs.length
theorem step_good {rs : List RD} {s : US} {u : Nat × Nat} {m : Nat} (g : Good m s.fx s.bs) (h : u ∈ usesN rs s.bs rs.length) : Good m (stepS rs s u).fx (stepS rs s u).bs ∧ muS (stepS rs s u).bs < muS s.bs := by
  obtain ⟨_, h2, h3⟩ := mem_usesN h
  exact g.use h2 h3
theorem step_st (rs : List RD) (s : US) (u : Nat × Nat) : (stepS rs s u).st.length = s.st.length + 1 := by
  unfold stepS
  rw [List.length_append]; rfl
theorem usesR_pre (r : RD) (k : Nat) (bs : List Nat) (j : Nat) : ∀ d, ∃ z, usesR r k bs (j + d) = usesR r k bs j ++ z
  | 0 => ⟨[], by rw [List.append_nil]; rfl⟩
  | d + 1 => by
    obtain ⟨z, e⟩ := usesR_pre r k bs j d
    exact ⟨_, by rw [← Nat.add_assoc, usesR_succ, e, List.append_assoc]⟩
theorem usesN_pre (rs : List RD) (bs : List Nat) (i : Nat) : ∀ d, ∃ z, usesN rs bs (i + d) = usesN rs bs i ++ z
  | 0 => ⟨[], by rw [List.append_nil]; rfl⟩
  | d + 1 => by
    obtain ⟨z, e⟩ := usesN_pre rs bs i d
    exact ⟨_, by rw [← Nat.add_assoc, usesN_succ, e, List.append_assoc]⟩
theorem uses_first {rs : List RD} {bs : List Nat} {i j n : Nat} (h0 : usesN rs bs i = []) (h1 : usesR (rdAt rs i) i bs j = []) (hi : i < n) (hj : j < bs.length) (hu : usB (rdAt rs i) (bs.getD j 0) = true) : ∃ us, usesN rs bs n = (i, j) :: us := by
  obtain ⟨z, e⟩ := usesN_pre rs bs (i + 1) (n - (i + 1))
  obtain ⟨z', e'⟩ := usesR_pre (rdAt rs i) i bs (j + 1) (bs.length - (j + 1))
  rw [show i + 1 + (n - (i + 1)) = n by omega] at e
  rw [show j + 1 + (bs.length - (j + 1)) = bs.length by omega, usesR_succ, h1, if_pos hu] at e'
  rw [e, usesN_succ, h0, e']
  exact ⟨_, rfl⟩
/-! the parts drawn by k20's law -/
/-! every column is fixed or in a block -/
/-! a set whose book keeps the rules stays within one block -/
/-- what a run comes to -/
theorem Run.good {rs : List RD} {s t : US} {m : Nat} (h : Run rs s t) : Good m s.fx s.bs → Good m t.fx t.bs ∧ usesN rs t.bs rs.length = [] := by
  induction h with
  | done h => exact fun g => ⟨g, h⟩
  | step e _ ih => exact fun g => ih (step_good g (by rw [e]; exact List.mem_cons_self ..)).1
end L2

namespace L2
open PySem PySem.Spec PyProof.Rows
/-! ### what is not in a set, min, an object of one's own written -/
theorem Same.own {H H' : Hp} {p : Addr} {o : HO} (e : Same H H') (h : H p = Option.none) : Same H (upd H' p o) := fun c u z => by
  rw [upd_ne (ne_of_none z h)]
  exact e c u z
theorem and_not (b y : Nat) : Builtin.bitAnd (b : Int) (Builtin.bitNot (y : Int)) = ((b - (b &&& y) : Nat) : Int) := by
  have hy : ¬ 0 ≤ Builtin.bitNot (y : Int) := by unfold Builtin.bitNot; omega
  have hb : 0 ≤ (b : Int) := by omega
  have le := Nat.and_le_left (n := b) (m := y)
  simp only [Builtin.bitAnd, hy, hb, decide_false, decide_true, bitNot_not, Int.toNat_natCast]
  omega
section
variable {X : Cx} {K : PySem.W.Frag}
theorem op_andInv : OpR X (binaryOp .BitAnd) (fun x y H Q => ∃ a b : Nat, x = vN a ∧ y = .int (Builtin.bitNot (b : Int)) ∧ Q (vN (a - (a &&& b))) H) := op_and.mono fun x y H Q ⟨a, b, h1, h2, q⟩ => ⟨a, _, h1, h2, by
  show Q (V.int (Builtin.bitAnd (a : Int) (Builtin.bitNot (b : Int)))) H
  rw [and_not]; exact q⟩
end
/-! ### what the unfolding's defs promise -/
noncomputable def spListed : Sp := fun vs H Q _ => ∃ b : Nat, vs = [vN b] ∧ ∀ p, H p = none → Q (.ref p) (upd H p (.lst ((if 0 < b then [b] else []).map vN)))
noncomputable def spUsed (K : PySem.W.Frag) : Sp := fun vs H Q _ => ∃ (r l : Addr) (st : Bool) (x y fx at_ : Nat) (bs : List Nat), vs = [.ref r, vN fx, .ref l, vN at_] ∧ RuleAt H r st x y ∧ SqL K H l (bs.map vN) ∧ at_ < bs.length ∧ bs.length ≤ 200 ∧ fx &&& bs.getD at_ 0 = 0 ∧
  ∀ (t p : Addr) (H' : Hp), Same H H' → H t = none → H' t = some (.tup [vN (behindFx st y fx bs at_), .ref p]) → H p = none → H' p = some (.lst ((behindBs st y bs at_).map vN)) → Q (.ref t) H'
noncomputable def spBegun (K : PySem.W.Frag) : Sp := fun vs H Q _ => ∃ m x : Nat, vs = [vN m, vN x] ∧ m ≤ 7 ∧ x < 2 ^ m ∧
  ∀ (t p : Addr) (H' : Hp), Same H H' → H t = none → H' t = some (.tup [vN x, .ref p]) → H p = none → H' p = some (.lst ((beginBs m x).map vN)) → Q (.ref t) H'
noncomputable def Rl.d (r : Rl) : RD := (r.st, r.x, r.y)
theorem rd_at {rs : List Rl} {k : Nat} {r : Rl} (h : rs[k]? = some r) : rdAt (rs.map Rl.d) k = r.d := by
  unfold rdAt
  rw [List.getD_eq_getElem?_getD, List.getElem?_map, h]; rfl
noncomputable def RulesAt (H : Hp) (m : Nat) (rs : List Rl) : Prop := ∀ r ∈ rs, RuleAt H r.r r.st r.x r.y ∧ r.x < 2 ^ m ∧ r.y < 2 ^ m
theorem RulesAt.same {H H' : Hp} {m : Nat} {rs : List Rl} (h : RulesAt H m rs) (e : Same H H') : RulesAt H' m rs := fun r hr => ⟨e _ _ (h r hr).1, (h r hr).2⟩
noncomputable def spFirstUse (K : PySem.W.Frag) : Sp := fun vs H Q _ => ∃ (rl bl : Addr) (rs : List Rl) (bs : List Nat) (m : Nat), vs = [.ref rl, .ref bl] ∧ SqL K H rl (rs.map fun r => V.ref r.r) ∧ RulesAt H m rs ∧ SqL K H bl (bs.map vN) ∧ rs.length ≤ 200 ∧ bs.length ≤ 200 ∧
  (∀ H', Same H H' → usesN (rs.map Rl.d) bs rs.length = [] → Q .non H') ∧
  ∀ (u : Nat × Nat) (us : List (Nat × Nat)) (t : Addr) (H' : Hp), Same H H' → usesN (rs.map Rl.d) bs rs.length = u :: us → H t = none → H' t = some (.tup [vN u.1, vN u.2]) → Q (.ref t) H'
/-- tuples of two numbers in the heap -/
noncomputable abbrev SW := Addr × (Nat × Nat)
noncomputable def StepsAt (H : Hp) (sw : List SW) : Prop := ∀ w ∈ sw, H w.1 = some (.tup [vN w.2.1, vN w.2.2])
theorem StepsAt.same {H H' : Hp} {sw : List SW} (h : StepsAt H sw) (e : Same H H') : StepsAt H' sw := fun w hw => e _ _ (h w hw)
theorem StepsAt.put {H : Hp} {sw : List SW} {q : Addr} {xs ys : List V} (h : StepsAt H sw) (hq : H q = some (.lst xs)) : StepsAt (upd H q (.lst ys)) sw := fun w hw => by
  rw [upd_ne (ne_of (h w hw) hq (by intro z; cases z))]
  exact h w hw
theorem StepsAt.snoc {H : Hp} {sw : List SW} {w : SW} (h : StepsAt H sw) (hw : H w.1 = some (.tup [vN w.2.1, vN w.2.2])) : StepsAt H (sw ++ [w]) := fun v hv => by
  rcases List.mem_append.mp hv with hv | hv
  · exact h v hv
  · rw [List.mem_singleton.mp hv]; exact hw
theorem rd_len (rs : List Rl) : (rs.map Rl.d).length = rs.length := List.length_map ..
noncomputable def spUnfolded (K : PySem.W.Frag) : Sp := fun vs H Q _ => ∃ (m x : Nat) (rl : Addr) (rs : List Rl), vs = [vN m, .ref rl, vN x] ∧ m ≤ 7 ∧ x < 2 ^ m ∧ SqL K H rl (rs.map fun r => V.ref r.r) ∧ RulesAt H m rs ∧ rs.length ≤ 200 ∧
  ∀ (t p q : Addr) (s : US) (sw : List SW) (H' : Hp), Run (rs.map Rl.d) ⟨x, beginBs m x, []⟩ s → Same H H' → H t = none → H' t = some (.tup [vN s.fx, .ref p, .ref q]) → H p = none → H' p = some (.lst (s.bs.map vN)) → H q = none → H' q = some (.lst (sw.map fun w => V.ref w.1)) → StepsAt H' sw → sw.map (·.2) = s.st → sw.length ≤ 300 → p ≠ q → Q (.ref t) H'
/-! data -/
theorem same_list {α : Type} [DecidableEq α] {f : α → PyData} (h : ∀ a b, same (f a) (f b) = decide (a = b)) (xs ys : List α) : same (.list (xs.map f)) (.list (ys.map f)) = decide (xs = ys) := by
  simp only [same]
  exact sameAll_map h xs ys
theorem noMix_list {α : Type} {f : α → PyData} (h : ∀ a b, SeqAt.noMix (f a) (f b) = true) (xs ys : List α) : SeqAt.noMix (.list (xs.map f)) (.list (ys.map f)) = true := by
  simp only [SeqAt.noMix]
  exact noMixAll_map h xs ys
theorem same_dR (a b : RD) : same (dR a) (dR b) = decide (a = b) := by
  unfold dR
  obtain ⟨a1, a2, a3⟩ := a
  obtain ⟨b1, b2, b3⟩ := b
  have hw : (wordS a1 = wordS b1) ↔ a1 = b1 := by
    constructor
    · intro h
      cases a1 <;> cases b1 <;> first | rfl | (exact absurd h (by decide))
    · rintro rfl; rfl
  by_cases h1 : a1 = b1 <;> by_cases h2 : a2 = b2 <;> by_cases h3 : a3 = b3 <;> simp [same, sameAll, hw, h1, h2, h3, Int.ofNat_inj]
theorem rules_dv {K : PySem.W.Frag} {H : Hp} {m : Nat} : ∀ {rs : List Rl}, RulesAt H m rs → DVs K H (rs.map fun r => V.ref r.r) ((rs.map Rl.d).map dR)
  | [], _ => .nil
  | r :: rs, h => .cons (.tup (SqT.of (h r (List.mem_cons_self ..)).1) (.cons (.str _) (.cons (.int _) (.cons (.int _) .nil)))) (rules_dv fun v hv => h v (List.mem_cons_of_mem _ hv))
end L2

namespace L2
open PySem PySem.Spec PyProof.Rows
/-! ### an unfolding under way, in the heap -/
structure UCore (H : Hp) (m x : Nat) (rs : List Rl) (s : US) (p qa : Addr) (sw : List SW) (H' : Hp) : Prop where
  same : Same H H'
  hp0 : H p = none
  hp : H' p = some (.lst (s.bs.map vN))
  npq : p ≠ qa
  hq0 : H qa = none
  hq : H' qa = some (.lst (sw.map fun w => V.ref w.1))
  st : StepsAt H' sw
  est : sw.map (·.2) = s.st
  good : Good m s.fx s.bs
  run : ∀ z, Run (rs.map Rl.d) s z → Run (rs.map Rl.d) ⟨x, beginBs m x, []⟩ z
  len : s.st.length + muS s.bs ≤ 254
theorem UCore.mono {H : Hp} {m x : Nat} {rs : List Rl} {s : US} {p qa : Addr} {sw : List SW} {H' H'' : Hp} (c : UCore H m x rs s p qa sw H') (e : Same H' H'') : UCore H m x rs s p qa sw H'' :=
  ⟨c.same.trans e, c.hp0, e _ _ c.hp, c.npq, c.hq0, e _ _ c.hq, c.st.same e, c.est, c.good, c.run, c.len⟩
theorem UCore.begin {H H' : Hp} {m x : Nat} {rs : List Rl} {p qa : Addr} (m7 : m ≤ 7) (hx : x < 2 ^ m) (e : Same H H') (hp0 : H p = none) (hp : H' p = some (.lst ((beginBs m x).map vN))) (hq : H' qa = none) : UCore H m x rs ⟨x, beginBs m x, []⟩ p qa [] (upd H' qa (.lst [])) := by
  have g := Good.begin hx
  refine ⟨e.trans (Same.new hq), hp0, Same.new hq _ _ hp, ne_of_none hp hq, e.none hq, upd_same, fun w h => absurd h List.not_mem_nil, rfl, g, fun z h => h, ?_⟩
  have e := g.sum
  have p7 := pow7 m7
  show 0 + muS (beginBs m x) ≤ 254
  unfold muS
  omega
theorem UCore.slen {H : Hp} {m x : Nat} {rs : List Rl} {s : US} {p qa : Addr} {sw : List SW} {H' : Hp} (c : UCore H m x rs s p qa sw H') : sw.length ≤ 254 := by
  have := c.len
  have e := congrArg List.length c.est
  rw [List.length_map] at e
  omega
theorem UCore.next {H : Hp} {m x : Nat} {rs : List Rl} {s : US} {p p' qa : Addr} {sw : List SW} {w : SW} {H1 H3 : Hp} {u : Nat × Nat} {us : List (Nat × Nat)} (c : UCore H m x rs s p qa sw H1) (hu : usesN (rs.map Rl.d) s.bs rs.length = u :: us) (ew : w.2 = (u.1, s.bs.getD u.2 0)) (hw : H1 w.1 = some (.tup [vN w.2.1, vN w.2.2]))
    (s3 : Same (upd H1 qa (.lst ((sw.map fun w => V.ref w.1) ++ [V.ref w.1]))) H3) (hp' : (upd H1 qa (.lst ((sw.map fun w => V.ref w.1) ++ [V.ref w.1]))) p' = none) (hp3 : H3 p' = some (.lst ((stepS (rs.map Rl.d) s u).bs.map vN))) :
    UCore H m x rs (stepS (rs.map Rl.d) s u) p' qa (sw ++ [w]) H3 ∧ muS (stepS (rs.map Rl.d) s u).bs < muS s.bs := by
  rw [← rd_len] at hu
  obtain ⟨g, mu⟩ := step_good (m := m) (rs := rs.map Rl.d) (s := s) (u := u) c.good (by rw [hu]; exact List.mem_cons_self ..)
  have sH : Same H (upd H1 qa (.lst ((sw.map fun w => V.ref w.1) ++ [V.ref w.1]))) := c.same.own c.hq0
  refine ⟨⟨sH.trans s3, sH.none hp', hp3, Ne.symm (ne_of_none upd_same hp'), c.hq0, ?_, ?_, ?_, g, fun z h => c.run z (Run.step hu h), ?_⟩, mu⟩
  · rw [s3 _ _ upd_same, List.map_append]; rfl
  · refine ((c.st.put c.hq).snoc ?_).same s3
    rw [upd_ne (ne_of hw c.hq (by intro z; cases z))]
    exact hw
  · rw [List.map_append, c.est]
    show s.st ++ [w.2] = s.st ++ [(u.1, s.bs.getD u.2 0)]
    rw [ew]
  · rw [step_st]
    have := c.len
    omega
noncomputable def UInv (H : Hp) (m x : Nat) (rl : Addr) (rs : List Rl) (n : Nat) (σ : St) (H' : Hp) : Prop :=
  ∃ (s : US) (t p qa : Addr) (sw : List SW) (v : V), σ = [some (vN m), some (.ref rl), some (vN x), some (.ref t), some (.ref qa), some v] ∧ n = muS s.bs ∧ H' t = some (.tup [vN s.fx, .ref p]) ∧ UCore H m x rs s p qa sw H' ∧
    ((usesN (rs.map Rl.d) s.bs rs.length = [] ∧ v = .non) ∨ ∃ u us t5, usesN (rs.map Rl.d) s.bs rs.length = u :: us ∧ v = .ref t5 ∧ H' t5 = some (.tup [vN u.1, vN u.2]))
/-- what a use of the law's list gives -/
theorem uses_at {rs : List Rl} {bs : List Nat} {u : Nat × Nat} {m : Nat} {H : Hp} (hu : u ∈ usesN (rs.map Rl.d) bs rs.length) (hR : RulesAt H m rs) : ∃ r : Rl, rs[u.1]? = some r ∧ rdAt (rs.map Rl.d) u.1 = r.d ∧ u.2 < bs.length ∧ bs[u.2]? = some (bs.getD u.2 0) ∧ (RuleAt H r.r r.st r.x r.y ∧ r.x < 2 ^ m ∧ r.y < 2 ^ m) := by
  obtain ⟨h1, h2, _⟩ := mem_usesN hu
  have e : rs[u.1]? = some rs[u.1] := List.getElem?_eq_getElem h1
  exact ⟨rs[u.1], e, rd_at e, h2, by rw [List.getD_eq_getElem?_getD, List.getElem?_eq_getElem h2]; rfl, hR _ (List.getElem_mem h1)⟩
end L2

namespace L2
open PySem PySem.Spec PyProof.Rows
/-! ### what follows -/
section
variable {X : Cx} {K : PySem.W.Frag}
end
end L2

namespace L2
/-! ### the settled columns, found by books of two rows -/
open PySem PySem.Spec PyProof.Rows
end L2

namespace L2
/-! ### what follows, told by the sets whose books keep the rules -/
noncomputable def HasB (a k : Nat) : Prop := a.testBit k = true
theorem hasb_and (a b k : Nat) : HasB (a &&& b) k ↔ HasB a k ∧ HasB b k := by unfold HasB; rw [Nat.testBit_and, Bool.and_eq_true]
theorem hasb_out (b y k : Nat) : HasB (b - (b &&& y)) k ↔ HasB b k ∧ ¬ HasB y k := by
  unfold HasB
  rw [tb_out, Bool.and_eq_true]
  cases y.testBit k <;> simp
end L2
namespace L2
/-! ### the rules of following -/
section
variable {m : Nat} {rs : List RD} {x y z v : Nat}
end
open PySem PySem.Spec PyProof.Rows
end L2

namespace L2
/-! ### which sets are blocks; more rules -/
end L2
namespace L2
open PySem PySem.Spec PyProof.Rows
end L2

namespace L2
/-! ### covers -/
open PySem PySem.Spec PyProof.Rows
end L2

namespace L2
open PySem PySem.Spec PyProof.Rows
end L2

namespace L2
open PySem PySem.Spec PyProof.Rows
/-! ### sorted(.., reverse=True) of what stands so already: one run, of any length -/
section
variable {prog : Program} {w : World} {A : Around} {E : Value → Shared → Prop} {s : Shared} {a₀ : Array Keyed} {κ : KeyKind}
end
section
variable {X : Cx} {K : PySem.W.Frag}
end
end L2

namespace L2
open PySem PySem.Spec PyProof.Rows
/-! ### a rule in a list of rules; covers say the same (k42) -/
section
variable {X : Cx} {K : PySem.W.Frag}
end
end L2

namespace L2
/-! ### any steps lead to the same blocks -/
open PySem PySem.Spec PyProof.Rows
end L2

namespace L2
open PySem PySem.Spec PyProof.Rows
/-! ### all blocks at once -/
/-! ### covers, rule by rule -/
end L2

namespace L2
open PySem PySem.Spec PyProof.Rows
/-! ### two lists walked side by side -/
section
variable {X : Cx} {pins : List (Addr × Obj)} {σ : St} {H : Hp} {s : Shared}
end
end L2

namespace L2
open PySem PySem.Spec PyProof.Rows
/-! ### covers told exactly -/
end L2

namespace L2
open PySem PySem.Spec PyProof.Rows
end L2

namespace L2
open PySem PySem.Spec PyProof.Rows
/-! ### a comprehension whose one name is a cell of its own (a comprehension within it captures the name) -/
theorem lookup2 {x0 x : Str} {a c : Addr} {cells : List (Str × Addr)} {names : List (Str × NameKind)} (h : ((x0, a) :: clF cells names []).lookup x = some c) : (x = x0 ∧ c = a) ∨ (x ≠ x0 ∧ (clF cells names []).lookup x = some c) := by
  rw [List.lookup_cons] at h
  cases e : x == x0 with
  | true => rw [e] at h; exact .inl ⟨by simpa using e, (Option.some.inj h).symm⟩
  | false => rw [e] at h; exact .inr ⟨by simpa using e, h⟩
theorem lookup3 {x0 x : Str} {a c : Addr} {cl : List (Str × Addr)} (ne : x ≠ x0) (h : cl.lookup x = some c) : ((x0, a) :: cl).lookup x = some c := by
  rw [List.lookup_cons]
  have e : (x == x0) = false := by simpa using ne
  rw [e]; exact h
section
variable {X : Cx} {pins : List (Addr × Obj)} {σ : St} {H : Hp} {s : Shared} {x0 : Str} {sc : Scope} {ex : List Addr}
end
section
variable {X : Cx} {pins : List (Addr × Obj)} {σ : St} {H : Hp} {s2 : Shared} {tg iter elt : Expr} {ifs : List Expr} {sc : Scope} {pos : Pos} {x0 : Str} {g : TG} {tc : TT} {te : TE} {J : It} {fp : List Addr} {it : Addr} {tn : Nat → Heap → Prop}
end
section
variable {X : Cx} {tg iter elt : Expr} {ifs : List Expr} {sc : Scope} {pos : Pos} {x0 : Str} {wi : TI} {g : TG} {tc : TT} {te : TE}
end
end L2

namespace L2
open PySem PySem.Spec PyProof.Rows
/-! ### a lambda's body: its context, its first state, its call -/
noncomputable abbrev owC (o : Bool) (x0 : Str) (a : Addr) (cl : List (Str × Addr)) : List (Str × Addr) := cond o ((x0, a) :: cl) cl
noncomputable abbrev owN (o : Bool) (x0 : Str) (N : List Str) : List Str := cond o (x0 :: N) N
noncomputable abbrev owS (o : Bool) (σ : St) : St := cond o (none :: σ) σ
structure LScope (X : Cx) (o : Bool) (x0 : Str) (sc : Scope) : Prop where
  kind : sc.kind = .function
  co : sc.isCoroutine = false
  gen : sc.isGenerator = false
  own : o = true → sc.names.lookup x0 = some .cell
  only : ∀ y ∈ sc.names, y.2 = .cell → o = true ∧ y.1 = x0
  nol : ∀ y ∈ sc.names, y.2 ≠ .local
  frees : ∀ y ∈ sc.names, y.2 = .free → X.env.kindOf y.1 = some .cell ∨ X.env.kindOf y.1 = some .free
  laid : ∀ a cl, cellsFrom a sc.names cl = owC o x0 a cl
  push : ∀ h : Heap, pushCells h sc.names = cond o (h.push { cls := .type "cell", data := .cell none }) h
  nd : (owN o x0 X.N).Nodup
noncomputable abbrev lamEnv (qual : Str) (sc : Scope) (cells : List (Str × Addr)) (L f : Addr) (cd : Value) : Env := newEnv sc L mainGlobals cells (qual ++ ".<locals>.") (some f) cd none builtinsNs
noncomputable def cxL (X : Cx) (A : Around) (o : Bool) (x0 qual : Str) (sc : Scope) (f : Addr) (cd : Value) (xe : Value → Shared → Prop) (s : Shared) (H : Hp) : Cx where
  prog := X.prog
  w := X.w
  K := X.K
  mg := X.mg
  base := X.base
  A := A.deeper (lamEnv qual sc (owC o x0 (s.heap.objs.size + 1) (clF X.env.cells sc.names [])) s.heap.objs.size f cd)
  N := owN o x0 X.N
  s₀ := s
  H₀ := H
  env := lamEnv qual sc (owC o x0 (s.heap.objs.size + 1) (clF X.env.cells sc.names [])) s.heap.objs.size f cd
  outer := X.stack
  stack := lamEnv qual sc (owC o x0 (s.heap.objs.size + 1) (clF X.env.cells sc.names [])) s.heap.objs.size f cd :: X.stack
  ex := []
  fn := fun y => o && y == x0
  calm := true
  pn := []
  xe := xe
theorem lookupO {o : Bool} {x0 x : Str} {a c : Addr} {cells : List (Str × Addr)} {names : List (Str × NameKind)} (h : (owC o x0 a (clF cells names [])).lookup x = some c) :
    (o = true ∧ x = x0 ∧ c = a) ∨ ((o = true → x ≠ x0) ∧ (clF cells names []).lookup x = some c) := by
  cases o with
  | false => exact .inr ⟨(fun z => nomatch z), h⟩
  | true =>
    rcases lookup2 h with ⟨e, z⟩ | ⟨e, z⟩
    · exact .inl ⟨rfl, e, z⟩
    · exact .inr ⟨fun _ => e, z⟩
theorem lookupN {o : Bool} {x0 x : Str} {a c : Addr} {cl : List (Str × Addr)} (ne : o = true → x ≠ x0) (h : cl.lookup x = some c) : (owC o x0 a cl).lookup x = some c := by
  cases o with
  | false => exact h
  | true => exact lookup3 (ne rfl) h
section
variable {X : Cx} {pins : List (Addr × Obj)} {σ : St} {H : Hp} {s : Shared} {o : Bool} {x0 qual : Str} {sc : Scope} {f : Addr} {cd : Value} {A : Around} {xe : Value → Shared → Prop}
theorem LScope.cells (S : LScope X o x0 sc) (ok : X.Ok) : ∀ n, (n, NameKind.free) ∈ sc.names → ∃ c, X.env.cells.lookup n = some c := fun n h => ok.has n (S.frees _ h rfl)
theorem LScope.free_of (S : LScope X o x0 sc) {x : Str} (h : Vis sc x) (ne : o = true → x ≠ x0) : (x, NameKind.free) ∈ sc.names ∧ sc.names.lookup x = some .free := by
  rcases h with h | h | h
  · exact absurd rfl (S.nol _ (PySem.mem_of_lookup h))
  · obtain ⟨a, b⟩ := S.only _ (PySem.mem_of_lookup h) rfl
    exact absurd b (ne a)
  · exact ⟨PySem.mem_of_lookup h, h⟩
theorem cxL_ok (S : LScope X o x0 sc) (I : Inv X pins σ H s) (hA : A.frames = some X.stack) (hd : A.handled = none) : (cxL X A o x0 qual sc f cd xe s H).Ok := by
  have lt : ∀ x c, X.env.cells.lookup x = some c → c < s.heap.objs.size := fun x c e => by
    obtain ⟨v, q⟩ := I.cell x c e
    exact q.lt
  refine ⟨I.ok.mod, S.kind, rfl, rfl, Nat.le_refl _, fun x y c h1 h2 => ?_, fun x hx => ?_, fun x c h e => ?_, fun _ => hd, Around.frames_deeper hA, .inr ⟨rfl, rfl⟩, (fun b hb => absurd (show b ∈ ([] : List Addr) from hb) (by simp)), fun b o e => I.bs b o e, Nat.le_trans I.ok.bsz I.sz, (fun b _ _ hb => absurd (show b ∈ ([] : List Addr) from hb) (by simp)), (fun b hb => absurd (show b ∈ ([] : List Addr) from hb) (by simp)), I.stack, I.stkFree⟩
  · rcases lookupO h1 with ⟨_, z1, z2⟩ | ⟨_, z2⟩
    · rcases lookupO h2 with ⟨_, w1, _⟩ | ⟨_, w2⟩
      · rw [z1, w1]
      · have h := lt _ _ (clF_lookup w2).1
        rw [z2] at h
        exact absurd (Nat.lt_trans h (Nat.lt_succ_self _)) (Nat.lt_irrefl _)
    · rcases lookupO h2 with ⟨_, _, w2⟩ | ⟨_, w2⟩
      · have h := lt _ _ (clF_lookup z2).1
        rw [w2] at h
        exact absurd (Nat.lt_trans h (Nat.lt_succ_self _)) (Nat.lt_irrefl _)
      · exact I.ok.inj x y c (clF_lookup z2).1 (clF_lookup w2).1
  · have hv : sc.names.lookup x = some .cell ∨ sc.names.lookup x = some .free := hx
    by_cases ne : o = true ∧ x = x0
    · obtain ⟨rfl, rfl⟩ := ne
      exact ⟨s.heap.objs.size + 1, by show ((x, s.heap.objs.size + 1) :: _).lookup x = _; rw [List.lookup_cons, beq_self_eq_true]⟩
    · have ne' : o = true → x ≠ x0 := fun a b => ne ⟨a, b⟩
      obtain ⟨q, _⟩ := S.free_of (x := x) (hv.elim (fun z => .inr (.inl z)) fun z => .inr (.inr z)) ne'
      obtain ⟨c, e⟩ := S.cells I.ok x q
      obtain ⟨d, hd⟩ := lookup_isSome_of_mem (clF_has sc.names [] x c q e)
      exact ⟨d, lookupN ne' hd⟩
  · have h' : (o && x == x0) = true := h
    rcases lookupO e with ⟨_, _, z⟩ | ⟨ne, _⟩
    · rw [z]; exact Nat.le_succ _
    · rw [Bool.and_eq_true] at h'
      exact absurd (by simpa using h'.2) (ne h'.1)
theorem inv_lam {h₁ : Heap} {tk : Nat} (S : LScope X o x0 sc) (I : Inv X pins σ H s) (hA : A.frames = some X.stack) (hd : A.handled = none)
    (hn : h₁.Ns s.heap.objs.size (fun _ => none)) (hc : o = true → h₁.IsCell (s.heap.objs.size + 1) none) (hk : ∀ b o, s.heap.get? b = some o → h₁.get? b = some o) :
    Inv (cxL X A o x0 qual sc f cd xe s H) [] (owS o σ) H { s with heap := h₁, toks := tk } := by
  have I1 : Inv X pins σ H { s with heap := h₁, toks := tk } := I.kept hk
  have old : ∀ (i : Nat) (x : Str) (v : V), X.N[i]? = some x → σ[i]? = some (some v) → Vis sc x → (o = true → x ≠ x0) → ∃ u, RelV v u ∧ Look (cxL X A o x0 qual sc f cd xe s H).env h₁ (fun _ => none) x u := fun i x v h1 h2 h3 ne => by
    obtain ⟨hf, hkd⟩ := S.free_of h3 ne
    have hko := S.frees _ hf rfl
    obtain ⟨m, _, hl⟩ := I1.loc
    obtain ⟨u, r, l⟩ := hl i x v h1 h2 (by
      rcases hko with z | z
      · exact .inr (.inl z)
      · exact .inr (.inr z))
    refine ⟨u, r, .inr ⟨.inr hkd, ?_⟩⟩
    rcases l with ⟨z, _⟩ | ⟨_, c, ec, hc'⟩
    · rcases hko with q | q <;> (rw [q] at z; cases z)
    · obtain ⟨d, ed⟩ := lookup_isSome_of_mem (clF_has sc.names [] x c hf ec)
      have : c = d := by
        have := (clF_lookup ed).1
        rw [ec] at this
        exact Option.some.inj this
      subst this
      exact ⟨c, lookupN ne ed, hc'⟩
  refine ⟨cxL_ok S I hA hd, rfl, I.bare, Un.kept hk, ⟨_, hn, fun i x v h1 h2 h3 => ?_⟩, fun x c h => ?_, I.hok.fresh (Nat.le_refl _), fun x c h => ?_, fun p hp => absurd (show p ∈ ([] : List (Addr × Obj)) from hp) (by simp), I.hok.kept hk, ?_⟩
  · cases o with
    | false => exact old i x v h1 h2 h3 fun z => nomatch z
    | true =>
      cases i with
      | zero => cases h2
      | succ i => exact old i x v h1 h2 h3 fun _ z => (List.nodup_cons.mp S.nd).1 (by rw [← z]; exact List.mem_of_getElem? (show X.N[i]? = some x from h1))
  · rcases lookupO h with ⟨z, _, e⟩ | ⟨_, z⟩
    · rw [e]; exact ⟨none, hc z⟩
    · exact I1.cell x c (clF_lookup z).1
  · rcases lookupO h with ⟨_, _, e⟩ | ⟨_, z⟩
    · rw [e]; exact I.hok.fresh (Nat.le_succ _)
    · exact I.freeC x c (clF_lookup z).1
  · cases o with
    | false => exact I.len
    | true =>
      show (none :: σ).length = (x0 :: X.N).length
      rw [List.length_cons, List.length_cons, I.len]
/-- the frame and the own cell are laid -/
theorem newEnvL {M : Model} {E : Value → Shared → Prop} {cl : List (Str × Addr)} {binds : List (Str × Value)} {Q : Env → Shared → Prop} (laid : ∀ a cl, cellsFrom a sc.names cl = owC o x0 a cl) (push : ∀ h : Heap, pushCells h sc.names = cond o (h.push { cls := .type "cell", data := .cell none }) h)
    (hQ : wpAny M A (forIn binds PUnit.unit (fun (p : Str × Value) (_ : PUnit) => do storeName (lamEnv qual sc (owC o x0 (s.heap.objs.size + 1) cl) s.heap.objs.size f cd) p.1 p.2; pure (ForInStep.yield PUnit.unit))) (fun _ s' => Q (lamEnv qual sc (owC o x0 (s.heap.objs.size + 1) cl) s.heap.objs.size f cd) s') E
      { s with heap := cond o ((s.heap.push { cls := .type "frame", data := .dict #[] }).push { cls := .type "cell", data := .cell none }) (s.heap.push { cls := .type "frame", data := .dict #[] }) }) :
    wpAny M A (newFunctionEnv sc mainGlobals cl binds (qual ++ ".<locals>.") (some f) cd none builtinsNs) Q E s := by
  have fs : (s.heap.push { cls := .type "frame", data := .dict #[] }).objs.size = s.heap.objs.size + 1 := Heap.size_push ..
  unfold newFunctionEnv
  refine wpAny_bind (wpAny_alloc (wpAny_bind (wpAny_layCells _ (fun name kind cells => ?_) _ _ _ _ ?_)))
  · cases kind <;> rfl
  · show wpAny M A _ Q E { s with heap := pushCells (s.heap.push { cls := .type "frame", data := .dict #[] }) sc.names }
    dsimp only
    rw [laid, push]
    show wpAny M A (_ >>= _) Q E _
    rw [show ({ s with heap := s.heap.push { cls := .type (if (none : Option Env).isSome = true then "dict" else "frame"), data := .dict #[] } } : Shared).heap.objs.size = _ from fs]
    exact wpAny_bind (wpAny_mono hQ (fun _ s' h => wpAny_pure h) fun _ _ h => h)
end
end L2

namespace L2
open PySem PySem.Spec PyProof.Rows
/-! ### a lambda is made: the table of the def's code grows, or knows it already -/
noncomputable def BMod (mg : Str → Option Value) (base : Heap) : Prop := ∃ bm ob, mg "__builtins__" = some (.ref bm) ∧ bm ≠ builtinsNs ∧ base.get? bm = some ob ∧ ob.cls = .type "module" ∧ ob.dict = some builtinsNs ∧ ob.data = .plain
noncomputable def codeO (c : Addr) (qual : Str) : HO := .ext fun h => ∃ oc vs t, h.get? c = some oc ∧ oc.data = .fields vs ∧ vs[1]? = some (.str qual t)
noncomputable def lamO (f : Addr) (qual : Str) (params : Arguments) (body : Expr) (sc : Scope) (cl : List (Str × Addr)) (c : Addr) : HO := .ext fun h => ∃ pm ctv, h.get? f = some (PySem.W.kla_obj "<lambda>" qual params body sc cl pm c ctv)
noncomputable def tabV : List (Nat × Nat × Addr) → List Value
  | [] => []
  | e :: r => rawInt e.1 :: rawInt e.2.1 :: .ref e.2.2 :: tabV r
theorem tabV_app : ∀ (es fs : List (Nat × Nat × Addr)), tabV (es ++ fs) = tabV es ++ tabV fs
  | [], _ => rfl
  | e :: r, fs => by show _ :: _ :: _ :: tabV (r ++ fs) = _; rw [tabV_app r fs]; rfl
theorem tabV_ok : ∀ es : List (Nat × Nat × Addr), TriplesOk (tabV es)
  | [] => trivial
  | e :: r => tabV_ok r
theorem tabV_look (pos : Pos) : ∀ es : List (Nat × Nat × Addr), codeAmong pos (tabV es) = none ∨ ∃ e ∈ es, codeAmong pos (tabV es) = some (.ref e.2.2)
  | [] => .inl rfl
  | e :: r => by
    have u : codeAmong pos (tabV (e :: r)) = if ((e.1 : Int) == pos.line && (e.2.1 : Int) == pos.col) = true then some (.ref e.2.2) else codeAmong pos (tabV r) := rfl
    by_cases h : ((e.1 : Int) == pos.line && (e.2.1 : Int) == pos.col) = true
    · exact .inr ⟨e, List.mem_cons_self, by rw [u, if_pos h]⟩
    · rw [u, if_neg h]
      rcases tabV_look pos r with z | ⟨d, hd, z⟩
      · exact .inl z
      · exact .inr ⟨d, List.mem_cons_of_mem _ hd, z⟩
/-- the table at P of a def whose lambdas are all called qual -/
noncomputable def TabAt (P : Addr) (qual : Str) (H : Hp) : Prop := ∃ es : List (Nat × Nat × Addr), H P = some (.tbl (tabV es).toArray) ∧ ∀ e ∈ es, H e.2.2 = some (codeO e.2.2 qual)
theorem TabAt.nil {P : Addr} {qual : Str} {H : Hp} (h : H P = some (.tbl #[])) : TabAt P qual H := ⟨[], h, fun _ z => nomatch z⟩
theorem TabAt.same {P : Addr} {qual : Str} {H H' : Hp} (h : TabAt P qual H) (s : Same H H') : TabAt P qual H' := let ⟨es, a, b⟩ := h; ⟨es, s _ _ a, fun e he => s _ _ (b e he)⟩
theorem TabAt.but {P d : Addr} {qual : Str} {H H' : Hp} (h : TabAt P qual H) (s : But d H H') (hd : ∀ o, H d = some o → (∀ ps, o ≠ .tbl ps) ∧ ∀ φ, o ≠ .ext φ) : TabAt P qual H' := by
  obtain ⟨es, a, b⟩ := h
  refine ⟨es, s _ _ a fun z => ?_, fun e he => s _ _ (b e he) fun z => ?_⟩
  · rw [z] at a; exact (hd _ a).1 _ rfl
  · have b' := b e he
    rw [z] at b'
    exact (hd _ b').2 _ rfl
noncomputable def tLam (P : Addr) (qual : Str) (params : Arguments) (body : Expr) (sc : Scope) (cl : List (Str × Addr)) : TE := fun σ H Q => TabAt P qual H ∧
  ∀ f c H', But P H H' → TabAt P qual H' → H f = none → H' f = some (lamO f qual params body sc cl c) → H' c = some (codeO c qual) → Q (.ref f) H'
section
variable {X : Cx} {c P : Addr} {params : Arguments} {body : Expr} {sc : Scope} {pos : Pos} {qual : Str}
theorem codeO_ok {w : World} {p : Program} {H : Hp} {h : Heap} {c : Addr} {qual : Str} (hr : h.CodeRec (.ref c) qual) : ObjOk p w H h c (codeO c qual) := by
  obtain ⟨c', oc, vs, t, e, h1, h2, h3⟩ := hr
  cases e
  exact ⟨⟨oc, vs, t, h1, h2, h3⟩, ⟨oc, h1⟩, fun h1 h2 ⟨oc, vs, t, a, b⟩ k => ⟨oc, vs, t, k _ a, b⟩⟩
theorem codeO_rec {w : World} {p : Program} {H : Hp} {h : Heap} {c : Addr} {qual : Str} (x : ObjOk p w H h c (codeO c qual)) : h.CodeRec (.ref c) qual := by
  obtain ⟨⟨oc, vs, t, h1, h2, h3⟩, _⟩ := x
  exact ⟨c, oc, vs, t, rfl, h1, h2, h3⟩
theorem Un.grow {fs ex : List Addr} {H : Hp} {h h' : Heap} {c P : Addr} {o : HO} {ps more : Array Value} (hP : H P = some (.tbl ps)) (hx : Heap.ExtBut P h h') (hp : ∃ o', h'.get? P = some o') (hc : h.objs.size ≤ c) (hn : H c = none) :
    Un fs ex H (upd (upd H P (.tbl (ps ++ more))) c o) h h' where
  keep := fun b u q n _ _ => hx b u (fun z => by rw [z, hP] at n; cases n) q
  slot := fun b u q n _ _ => ⟨u.slots, hx b u (fun z => by rw [z, hP] at n; cases n) q⟩
  free := fun b u q n _ => by rw [upd_ne (Nat.ne_of_lt (Nat.lt_of_lt_of_le (Heap.lt_size q) hc)), upd_ne (fun z => by rw [z, hP] at n; cases n)]; exact n
  there := fun b u q _ => by
    by_cases z : b = P
    · rw [z]; exact hp
    · exact ⟨u, hx b u z q⟩
  tups := fun b xs q => by rw [upd_ne (ne_of_none q hn), upd_ne (ne_of q hP (fun z => nomatch z))]; exact q
  frzs := fun b u xs q => by rw [upd_ne (ne_of_none q hn), upd_ne (ne_of q hP (fun z => nomatch z))]; exact q
  tbls := fun b qs q => by
    by_cases z : b = P
    · subst z
      rw [hP] at q
      cases q
      exact ⟨more, by rw [upd_ne (ne_of_none hP hn), upd_same]⟩
    · exact ⟨#[], by rw [upd_ne (ne_of_none q hn), upd_ne z, q]; simp⟩
theorem pe_lam (hcode : X.env.code = .ref c) (C : PySem.W.CodeHd X.base c P) (hbm : BMod X.mg X.base) (hq : X.env.qual ++ "<lambda>" = qual) (hfr : ∀ y ∈ sc.names, y.2 = .free → X.env.kindOf y.1 = some .cell ∨ X.env.kindOf y.1 = some .free)
    (hdef : defaultsOf params X.env = ([], []) := by rfl) : PE X (.Lambda params body sc pos) (tLam P qual params body sc (clF X.env.cells sc.names [])) := by
  intro pins s σ H Q I h
  obtain ⟨⟨es, hP, hes⟩, q⟩ := h
  have hcl : closureFor sc X.env = pure (clF X.env.cells sc.names []) := closure_eq fun n hn => I.ok.has n (hfr _ hn rfl)
  have hPh : s.heap.get? P = some (PySem.W.tabObj (tabV es).toArray) := I.hok P _ hP
  have hg : s.heap.Ns mainGlobals X.mg := I.ok.mod.glob.keeps I.bk
  have hgP : mainGlobals ≠ P := fun z => by
    obtain ⟨o, _, _, e, _⟩ := I.ok.mod.glob
    have := (I.bs _ _ e).2
    rw [z, hP] at this
    cases this
  obtain ⟨bm, ob, b1, b2, b3, b4, b5, b6⟩ := hbm
  have n1 : bm ≠ mainGlobals := fun z => by
    obtain ⟨o, _, _, e, d, _⟩ := I.ok.mod.glob
    rw [z, e] at b3
    cases b3
    rw [d] at b6
    cases b6
  have n2 : bm ≠ P := fun z => by
    have := (I.bs _ _ b3).2
    rw [z, hP] at this
    cases this
  have hb : s.heap.BuiltinsAt X.mg P := ⟨bm, ob, b1, b2, n1, n2, I.bk _ _ b3, b4, b5, b6⟩
  have hge : X.env.globals = mainGlobals := I.ok.glob
  refine PySem.W.kla_eval hdef ?_
  rw [hq]
  have hok : TriplesOk (tabV es).toArray.toList := by rw [List.toList_toArray]; exact tabV_ok es
  rcases tabV_look pos es with hn | ⟨e, he, hit⟩
  · refine PySem.W.kla_makeFunction (mg := X.mg) hcl hge hg hcode (C.keeps I.bk) hPh hok (by rw [List.toList_toArray]; exact hn) hgP hb fun c' ctv h' tk hx hge' hlt hrec htb => ?_
    have hc' : H c' = none := I.hok.fresh hge'
    have nP : P ≠ c' := ne_of_none hP hc'
    have eP : (tabV es).toArray ++ #[rawInt pos.line, rawInt pos.col, .ref c'] = (tabV (es ++ [(pos.line, pos.col, c')])).toArray := by
      rw [tabV_app]; simp [tabV]
    have un : Un X.fs [] H (upd (upd H P (.tbl ((tabV es).toArray ++ #[rawInt pos.line, rawInt pos.col, .ref c']))) c' (codeO c' qual)) s.heap h' := Un.grow hP hx ⟨_, htb⟩ hge' hc'
    have ok1 : HOk X.prog X.w (upd (upd H P (.tbl ((tabV es).toArray ++ #[rawInt pos.line, rawInt pos.col, .ref c']))) c' (codeO c' qual)) h' := fun b u e => by
      by_cases zc : b = c'
      · subst zc
        rw [upd_same] at e
        cases e
        exact codeO_ok hrec
      rw [upd_ne zc] at e
      by_cases zp : b = P
      · subst zp
        rw [upd_same] at e
        cases e
        exact htb
      rw [upd_ne zp] at e
      refine (I.hok b u e).stay (fun d v hd k => hx d v ?_ k) (fun d k => ?_) fun d xs k => ?_
      · rcases hd with rfl | hd
        · exact zp
        · exact ne_of hd hP fun z => nomatch z
      · rw [upd_ne (ne_of_none k hc'), upd_ne (ne_of k hP fun z => nomatch z)]; exact k
      · rw [upd_ne (ne_of_none k hc'), upd_ne (ne_of k hP fun z => nomatch z)]; exact k
    have I1 := I.un (t' := tk) un ok1
    have hf : (upd (upd H P (.tbl ((tabV es).toArray ++ #[rawInt pos.line, rawInt pos.col, .ref c']))) c' (codeO c' qual)) h'.objs.size = none := I1.hok.fresh (Nat.le_refl _)
    have I2 := I1.laid (a := h'.objs.size) (t' := tk) (o := lamO h'.objs.size qual params body sc (clF X.env.cells sc.names []) c') (h' := h'.push (PySem.W.kla_obj "<lambda>" qual params body sc (clF X.env.cells sc.names []) ((X.mg "__name__").getD .none) c' ctv)) (fun b u e => Heap.get?_push_of_some _ e) (Nat.le_refl _)
      ⟨⟨_, _, Heap.get?_push_size _ rfl⟩, ⟨_, Heap.get?_push_size _ rfl⟩, fun h1 h2 ⟨pm, ctv, a⟩ k => ⟨pm, ctv, k _ a⟩⟩
    refine ⟨.ref h'.objs.size, _, I2, rfl, q h'.objs.size c' _ (fun b u e n => ?_) ⟨es ++ [(pos.line, pos.col, c')], ?_, fun e he => ?_⟩ ?_ upd_same ?_⟩
    · have e1 : (upd (upd H P (.tbl ((tabV es).toArray ++ #[rawInt pos.line, rawInt pos.col, .ref c']))) c' (codeO c' qual)) b = some u := by rw [upd_ne (ne_of_none e hc'), upd_ne n]; exact e
      rw [upd_ne (ne_of_none e1 hf)]; exact e1
    · rw [upd_ne (Nat.ne_of_lt (I1.hok.lt (o := .tbl ((tabV es).toArray ++ #[rawInt pos.line, rawInt pos.col, .ref c'])) (by rw [upd_ne nP, upd_same]))), upd_ne nP, upd_same, eP]
    · rcases List.mem_append.mp he with he | he
      · have e1 : (upd (upd H P (.tbl ((tabV es).toArray ++ #[rawInt pos.line, rawInt pos.col, .ref c']))) c' (codeO c' qual)) e.2.2 = some (codeO e.2.2 qual) := by
          rw [upd_ne (ne_of_none (hes e he) hc'), upd_ne (ne_of (hes e he) hP fun z => nomatch z)]; exact hes e he
        rw [upd_ne (ne_of_none e1 hf)]; exact e1
      · obtain rfl := List.mem_singleton.mp he
        show upd _ h'.objs.size _ c' = _
        rw [upd_ne (Nat.ne_of_lt hlt), upd_same]
    · cases z : H h'.objs.size with
      | none => rfl
      | some u => exact absurd (Nat.lt_of_lt_of_le (I.hok.lt z) (Nat.le_trans hge' (Nat.le_of_lt hlt))) (Nat.lt_irrefl _)
    · rw [upd_ne (Nat.ne_of_lt hlt), upd_same]
  · refine PySem.W.kla_makeFunctionHit (mg := X.mg) hcl hge hg hcode (C.keeps I.bk) hPh hok (by rw [List.toList_toArray]; exact hit) hb fun ctv h' tk hk hsz => ?_
    have I1 : Inv X pins σ H { s with heap := h', toks := tk } := I.kept hk
    have hf : H h'.objs.size = none := I1.hok.fresh (Nat.le_refl _)
    have I2 := I1.laid (a := h'.objs.size) (t' := tk) (o := lamO h'.objs.size qual params body sc (clF X.env.cells sc.names []) e.2.2) (h' := h'.push (PySem.W.kla_obj "<lambda>" qual params body sc (clF X.env.cells sc.names []) ((X.mg "__name__").getD .none) e.2.2 ctv)) (fun b u e => Heap.get?_push_of_some _ e) (Nat.le_refl _)
      ⟨⟨_, _, Heap.get?_push_size _ rfl⟩, ⟨_, Heap.get?_push_size _ rfl⟩, fun h1 h2 ⟨pm, ctv, a⟩ k => ⟨pm, ctv, k _ a⟩⟩
    have sm : Same H (upd H h'.objs.size (lamO h'.objs.size qual params body sc (clF X.env.cells sc.names []) e.2.2)) := Same.new hf
    exact ⟨.ref h'.objs.size, _, I2, rfl, q h'.objs.size e.2.2 _ sm.but (TabAt.same ⟨es, hP, hes⟩ sm) hf upd_same (sm _ _ (hes e he))⟩
end
section
variable {X : Cx} {pins : List (Addr × Obj)} {σ : St} {H : Hp} {s : Shared} {o : Bool} {x0 qual : Str} {sc : Scope} {f c : Addr} {A : Around} {params : Arguments} {body : Expr} {te : TE} {Q : VK}
/-- a lambda of one own name is called -/
theorem lam_run1 {v : V} {u : Value} {E : Value → Shared → Prop} (S : LScope X true x0 sc) (hA : A.frames = some X.stack) (hd : A.handled = none) (hroom : A.depth < recursionLimit)
    (hbind : ∀ pm ctv, bindArgs (PySem.W.kla_fn "<lambda>" qual params body sc (clF X.env.cells sc.names []) pm (.ref c) ctv) ⟨[u], []⟩ = pure [(x0, u)])
    (hb : ∀ s3 H3, PE (cxL X A true x0 qual sc f (.ref c) (fun _ _ => False) s3 H3) body te)
    (I : Inv X pins σ H s) (hf : H f = some (lamO f qual params body sc (clF X.env.cells sc.names []) c)) (hc : H c = some (codeO c qual)) (r : RelV v u)
    (h : te (some v :: σ) H Q) : wpAny (model X.prog X.w) A (call (.ref f) [u]) (EP X pins σ Q) E s := by
  obtain ⟨⟨pm, ctv, ho⟩, _⟩ := I.hok f _ hf
  have hrec := codeO_rec (I.hok c _ hc)
  refine wpAny_call ?_
  refine PySem.W.kla_callFunE hroom ho rfl S.co S.gen rfl hrec ?_
  rw [hbind]
  refine wpAny_pure (newEnvL (o := true) (x0 := x0) S.laid S.push ?_)
  have fs : (s.heap.push { cls := .type "frame", data := .dict #[] }).objs.size = s.heap.objs.size + 1 := Heap.size_push ..
  have kp : ∀ b o, s.heap.get? b = some o → ((s.heap.push { cls := .type "frame", data := .dict #[] }).push { cls := .type "cell", data := .cell none }).get? b = some o := fun b o e => Heap.get?_push_of_some _ (Heap.get?_push_of_some _ e)
  have I1 : Inv (cxL X A true x0 qual sc f (.ref c) (fun _ _ => False) s H) [] (none :: σ) H { s with heap := (s.heap.push { cls := .type "frame", data := .dict #[] }).push { cls := .type "cell", data := .cell none } } :=
    inv_lam (tk := s.toks) S I hA hd ((Heap.Ns.new s.heap (.type "frame")).keeps fun b o e => Heap.get?_push_of_some _ e) (fun _ => by rw [← fs]; exact ⟨_, Heap.get?_push_size _ rfl, rfl⟩) kp
  rw [List.forIn_cons]
  refine wpAny_bind (wpAny_bind (store_ok (i := 0) (v := v) I1 S.nd rfl (.inr (S.own rfl)) r (fun s' I2 => wpAny_pure ?_) (.inl (by show (true && x0 == x0) = true; simp))))
  dsimp only
  rw [List.forIn_nil]
  refine wpAny_pure ⟨I2.nolimit, PySem.W.kla_codeExpr ?_⟩
  refine wpAny_mono (hb s H [] s' (some v :: σ) H Q I2 h) (fun u' s'' ⟨y, H', J, ry, qy⟩ => ?_) fun e s'' z => z.elim
  exact I.after ⟨y, H', J.os, J.bare, J.base, J.hok, ry, qy⟩
end
end L2

namespace L2
open PySem PySem.W PyProof.Rows
namespace SR
/-! ### the pieces of list.sort by their names -/
noncomputable def gall : Bool → Keyed → Array Keyed → Nat → Nat → Nat → StateT SortSt Sem (Option Nat) := sortPriv% PySem.Builtin.gallop
noncomputable def mLo : Array Keyed → Array Keyed → StateT SortSt Sem (Array Keyed) := sortPriv% PySem.Builtin.mergeLo
noncomputable def mHi : Array Keyed → Array Keyed → StateT SortSt Sem (Array Keyed) := sortPriv% PySem.Builtin.mergeHi
/-- an order: its questions and what follows from the answers -/
structure TO (L : Keyed → Keyed → Bool) : Prop where
  as_ : ∀ {x y}, L x y = true → L y x = false
  tr : ∀ {x y z}, L y x = false → L z y = false → L z x = false
section
variable {prog : Program} {w : World} {A : Around} {E : Value → Shared → Prop} {s : Shared} {κ : SortKind} {U : Keyed → Prop} {L : Keyed → Keyed → Bool}
/-- questions about members of U are answered by L, and nothing changes -/
noncomputable def Asked (prog : Program) (w : World) (A : Around) (s : Shared) (κ : SortKind) (U : Keyed → Prop) (L : Keyed → Keyed → Bool) : Prop :=
  ∀ x y, U x → U y → wpAny (model prog w) A (keyLt' κ x.1 y.1) (fun b s' => s' = s ∧ b = L x y) (fun _ _ => False) s
theorem r_elem {arr : Array Keyed} {i : Nat} {x : Keyed} {Q : Keyed → SortSt → Prop} {st : SortSt} (hx : arr[i]? = some x) (h : Q x st) : wpS (model prog w) A E s (elem' arr i) Q st := by
  rw [elem'_eq, hx]
  exact wpS_pure h
theorem r_lt (H : Asked prog w A s κ U L) {x y : Keyed} {Q : Option Bool → SortSt → Prop} {st : SortSt} (hk : kindOf st = κ) (ux : U x) (uy : U y) (h : Q (some (L x y)) st) : wpS (model prog w) A E s (lt' x y) Q st := by
  rw [lt'_eq]
  refine wpS_bind (wpS_get (wpS_bind (wpS_lift (wpAny_attempt (wpAny_mono (by rw [hk]; exact H x y ux uy) (fun b s' hb => ?_) fun _ _ f => False.elim f)))))
  obtain ⟨rfl, rfl⟩ := hb
  exact ⟨rfl, wpS_pure h⟩
theorem r_rule {r : String} {Q : Unit → SortSt → Prop} {st : SortSt} (h : Q () st) : wpS (model prog w) A E s (liftM (rule r) : StateT SortSt Sem Unit) Q st := wpS_lift (wpAny_rule ⟨rfl, h⟩)
/-! what galloping asks, as truths -/
theorem r_bey (H : Asked prog w A s κ U L) {left : Bool} {key x : Keyed} {arr : Array Keyed} {j : Nat} {Q : Option Bool → SortSt → Prop} {st : SortSt} (hk : kindOf st = κ) (uk : U key) (hx : arr[j]? = some x) (ux : U x)
    (h : Q (some (if left = true then L x key else !(L key x))) st) : wpS (model prog w) A E s (elem' arr j >>= fun x => if left = true then lt' x key else lt' key x >>= fun r => pure (r.map fun c => !c)) Q st := by
  refine wpS_bind (r_elem hx ?_)
  cases left with
  | true => exact r_lt H hk ux uk h
  | false => exact wpS_bind (r_lt H hk uk ux (wpS_pure h))
theorem r_gall (H : Asked prog w A s κ U L) {left : Bool} {key : Keyed} {arr : Array Keyed} {base n hint : Nat} {b : Nat → Bool} {Q : Option Nat → SortSt → Prop} {st : SortSt} (hk : kindOf st = κ) (uk : U key)
    (hb : ∀ i, i < n → ∃ x, arr[base + i]? = some x ∧ U x ∧ (if left = true then L x key else !(L key x)) = b i) (hm : ∀ i j, i ≤ j → j < n → b j = true → b i = true) (hh : hint < n)
    (h : ∀ k, k ≤ n → (∀ i, i < k → b i = true) → (∀ i, k ≤ i → i < n → b i = false) → Q (some k) st) : wpS (model prog w) A E s (gall left key arr base n hint) Q st := by
  have hf : ∀ i j, i ≤ j → j < n → b i = false → b j = false := fun i j h1 h2 h3 => by
    cases c : b j with
    | false => rfl
    | true => rw [hm i j h1 h2 c] at h3; exact h3
  obtain ⟨x0, g1, g2, g3⟩ := hb hint hh
  refine wpS_bind (r_bey H hk uk g1 g2 ?_)
  rw [g3]
  dsimp only
  cases c0 : b hint with
  | true =>
    rw [if_pos rfl]
    refine wpS_bind (wpS_mono (wpS_forRange (I := fun i c st' => ∃ la of, c = (none, la, of) ∧ st' = st ∧ hint + la < n ∧ b (hint + la) = true ∧ la < of ∧ i + 1 ≤ of)
      (Q := fun c st' => ∃ la of, c = (none, la, of) ∧ st' = st ∧ hint + la < n ∧ b (hint + la) = true ∧ la < of ∧ (n - hint ≤ of ∨ b (hint + of) = false)) ?_ ?_ ⟨0, 1, rfl, rfl, hh, c0, by omega, by omega⟩) ?_)
    · rintro i c st' _ hi ⟨la, of, rfl, rfl, p1, p2, p3, p4⟩
      dsimp only
      by_cases d : of ≥ n - hint
      · rw [if_pos d]
        exact wpS_pure ⟨la, of, rfl, rfl, p1, p2, p3, .inl d⟩
      · rw [if_neg d]
        obtain ⟨x1, k1, k2, k3⟩ := hb (hint + of) (by omega)
        refine wpS_bind (r_bey H hk uk k1 k2 ?_)
        rw [k3]
        cases c1 : b (hint + of) with
        | true => exact wpS_pure ⟨of, 2 * of + 1, rfl, rfl, by omega, c1, by omega, by omega⟩
        | false => exact wpS_pure ⟨la, of, rfl, rfl, p1, p2, p3, .inr c1⟩
    · rintro c st' ⟨la, of, rfl, rfl, p1, p2, p3, p4⟩
      exact ⟨la, of, rfl, rfl, p1, p2, p3, .inl (by omega)⟩
    · rintro c st' ⟨la, of, rfl, rfl, p1, p2, p3, p4⟩
      dsimp only
      obtain ⟨lo, elo⟩ : ∃ lo, hint + la + 1 = lo := ⟨_, rfl⟩
      obtain ⟨hi, ehi⟩ : ∃ hi, hint + min of (n - hint) = hi := ⟨_, rfl⟩
      rw [elo, ehi]
      have q1 : ∀ i, i < lo → b i = true := fun i hi => hm i (hint + la) (by omega) p1 p2
      have q2 : ∀ i, hi ≤ i → i < n → b i = false := fun i h1 h2 => by
        rcases p4 with p4 | p4
        · omega
        · by_cases e : of ≤ n - hint
          · exact hf (hint + of) i (by omega) h2 p4
          · omega
      have q3 : lo ≤ hi ∧ hi ≤ n := by omega
      clear p1 p2 p3 p4 elo ehi c0
      refine wpS_bind (wpS_mono (wpS_forRange (I := fun i c st'' => ∃ lo hi, c = (none, lo, hi) ∧ st'' = st' ∧ (∀ i, i < lo → b i = true) ∧ (∀ i, hi ≤ i → i < n → b i = false) ∧ lo ≤ hi ∧ hi ≤ n ∧ hi - lo + i ≤ n)
        (Q := fun c st'' => ∃ lo hi, c = (none, lo, hi) ∧ st'' = st' ∧ (∀ i, i < lo → b i = true) ∧ (∀ i, hi ≤ i → i < n → b i = false) ∧ lo = hi ∧ hi ≤ n) ?_ ?_ ⟨lo, hi, rfl, rfl, q1, q2, q3.1, q3.2, by omega⟩) ?_)
      · rintro i c st'' _ hi ⟨lo, hi, rfl, rfl, p1, p2, p3, p4, p5⟩
        dsimp only
        by_cases d : lo ≥ hi
        · rw [if_pos d]
          exact wpS_pure ⟨lo, hi, rfl, rfl, p1, p2, by omega, p4⟩
        · rw [if_neg d]
          obtain ⟨x1, k1, k2, k3⟩ := hb (lo + (hi - lo) / 2) (by omega)
          refine wpS_bind (r_bey H hk uk k1 k2 ?_)
          rw [k3]
          cases c1 : b (lo + (hi - lo) / 2) with
          | true => exact wpS_pure ⟨lo + (hi - lo) / 2 + 1, hi, rfl, rfl, fun i hi' => hm i _ (by omega) (by omega) c1, p2, by omega, p4, by omega⟩
          | false => exact wpS_pure ⟨lo, lo + (hi - lo) / 2, rfl, rfl, p1, fun i h1 h2 => hf _ i h1 h2 c1, by omega, by omega, by omega⟩
      · rintro c st'' ⟨lo, hi, rfl, rfl, p1, p2, p3, p4, p5⟩
        exact ⟨lo, hi, rfl, rfl, p1, p2, by omega, p4⟩
      · rintro c st'' ⟨lo, hi, rfl, rfl, p1, p2, rfl, p4⟩
        exact wpS_pure (h lo p4 p1 p2)
  | false =>
    rw [if_neg Bool.false_ne_true]
    refine wpS_bind (wpS_mono (wpS_forRange (I := fun i c st' => ∃ la of, c = (none, la, of) ∧ st' = st ∧ la ≤ hint ∧ b (hint - la) = false ∧ la < of ∧ i + 1 ≤ of)
      (Q := fun c st' => ∃ la of, c = (none, la, of) ∧ st' = st ∧ la ≤ hint ∧ b (hint - la) = false ∧ la < of ∧ (hint + 1 ≤ of ∨ b (hint - of) = true)) ?_ ?_ ⟨0, 1, rfl, rfl, by omega, c0, by omega, by omega⟩) ?_)
    · rintro i c st' _ hi ⟨la, of, rfl, rfl, p1, p2, p3, p4⟩
      dsimp only
      by_cases d : of ≥ hint + 1
      · rw [if_pos d]
        exact wpS_pure ⟨la, of, rfl, rfl, p1, p2, p3, .inl d⟩
      · rw [if_neg d]
        obtain ⟨x1, k1, k2, k3⟩ := hb (hint - of) (by omega)
        refine wpS_bind (r_bey H hk uk k1 k2 ?_)
        rw [k3]
        cases c1 : b (hint - of) with
        | true => exact wpS_pure ⟨la, of, rfl, rfl, p1, p2, p3, .inr c1⟩
        | false => exact wpS_pure ⟨of, 2 * of + 1, rfl, rfl, by omega, c1, by omega, by omega⟩
    · rintro c st' ⟨la, of, rfl, rfl, p1, p2, p3, p4⟩
      exact ⟨la, of, rfl, rfl, p1, p2, p3, .inl (by omega)⟩
    · rintro c st' ⟨la, of, rfl, rfl, p1, p2, p3, p4⟩
      dsimp only
      obtain ⟨lo, elo⟩ : ∃ lo, hint + 1 - min of (hint + 1) = lo := ⟨_, rfl⟩
      obtain ⟨hi, ehi⟩ : ∃ hi, hint - la = hi := ⟨_, rfl⟩
      rw [elo, ehi]
      have q1 : ∀ i, i < lo → b i = true := fun i hi => by
        rcases p4 with p4 | p4
        · omega
        · exact hm i (hint - of) (by omega) (by omega) p4
      have q2 : ∀ i, hi ≤ i → i < n → b i = false := fun i h1 h2 => hf (hint - la) i (by omega) h2 p2
      have q3 : lo ≤ hi ∧ hi ≤ n := by omega
      clear p1 p2 p3 p4 elo ehi c0
      refine wpS_bind (wpS_mono (wpS_forRange (I := fun i c st'' => ∃ lo hi, c = (none, lo, hi) ∧ st'' = st' ∧ (∀ i, i < lo → b i = true) ∧ (∀ i, hi ≤ i → i < n → b i = false) ∧ lo ≤ hi ∧ hi ≤ n ∧ hi - lo + i ≤ n)
        (Q := fun c st'' => ∃ lo hi, c = (none, lo, hi) ∧ st'' = st' ∧ (∀ i, i < lo → b i = true) ∧ (∀ i, hi ≤ i → i < n → b i = false) ∧ lo = hi ∧ hi ≤ n) ?_ ?_ ⟨lo, hi, rfl, rfl, q1, q2, q3.1, q3.2, by omega⟩) ?_)
      · rintro i c st'' _ hi ⟨lo, hi, rfl, rfl, p1, p2, p3, p4, p5⟩
        dsimp only
        by_cases d : lo ≥ hi
        · rw [if_pos d]
          exact wpS_pure ⟨lo, hi, rfl, rfl, p1, p2, by omega, p4⟩
        · rw [if_neg d]
          obtain ⟨x1, k1, k2, k3⟩ := hb (lo + (hi - lo) / 2) (by omega)
          refine wpS_bind (r_bey H hk uk k1 k2 ?_)
          rw [k3]
          cases c1 : b (lo + (hi - lo) / 2) with
          | true => exact wpS_pure ⟨lo + (hi - lo) / 2 + 1, hi, rfl, rfl, fun i hi' => hm i _ (by omega) (by omega) c1, p2, by omega, p4, by omega⟩
          | false => exact wpS_pure ⟨lo, lo + (hi - lo) / 2, rfl, rfl, p1, fun i h1 h2 => hf _ i h1 h2 c1, by omega, by omega, by omega⟩
      · rintro c st'' ⟨lo, hi, rfl, rfl, p1, p2, p3, p4, p5⟩
        exact ⟨lo, hi, rfl, rfl, p1, p2, by omega, p4⟩
      · rintro c st'' ⟨lo, hi, rfl, rfl, p1, p2, rfl, p4⟩
        exact wpS_pure (h lo p4 p1 p2)
end
end SR
end L2

namespace L2
open PySem PySem.W PyProof.Rows
namespace SR
/-! ### two sorted lists made one: mathematics -/
section
variable {L : Keyed → Keyed → Bool} {la lb out ro : List Keyed} {ia ib na nb k : Nat}
/-- not after -/
noncomputable abbrev Le (L : Keyed → Keyed → Bool) (x y : Keyed) : Prop := L y x = false
noncomputable abbrev Inc (L : Keyed → Keyed → Bool) (l : List Keyed) : Prop := l.Pairwise (Le L)
theorem Le.of_lt (O : TO L) {x y : Keyed} (h : L x y = true) : Le L x y := O.as_ h
theorem Le.trans (O : TO L) {x y z : Keyed} (h : Le L x y) (g : Le L y z) : Le L x z := O.tr h g
theorem Inc.le (S : Inc L la) {i j : Nat} {x y : Keyed} (hi : la[i]? = some x) (hj : la[j]? = some y) (h : i < j) : Le L x y := by
  obtain ⟨h1, e1⟩ := List.getElem?_eq_some_iff.mp hi
  obtain ⟨h2, e2⟩ := List.getElem?_eq_some_iff.mp hj
  have := List.pairwise_iff_getElem.mp S i j h1 h2 h
  rw [e1, e2] at this
  exact this
theorem irr (O : TO L) (x : Keyed) : Le L x x := by
  show L x x = false
  cases c : L x x with
  | false => rfl
  | true => have := O.as_ c; rw [c] at this; exact this
theorem Inc.le' (O : TO L) (S : Inc L la) {i j : Nat} {x y : Keyed} (hi : la[i]? = some x) (hj : la[j]? = some y) (h : i ≤ j) : Le L x y := by
  rcases Nat.lt_or_ge i j with c | c
  · exact S.le hi hj c
  · have : i = j := by omega
    subst this
    rw [hi] at hj
    cases hj
    exact irr O x
theorem mem_drop {l : List Keyed} {i : Nat} {y : Keyed} (h : y ∈ l.drop i) : ∃ j, i ≤ j ∧ l[j]? = some y := by
  obtain ⟨j, hj⟩ := List.mem_iff_getElem?.mp h
  rw [List.getElem?_drop] at hj
  exact ⟨i + j, by omega, hj⟩
theorem mem_take {l : List Keyed} {n : Nat} {y : Keyed} (h : y ∈ l.take n) : ∃ j, j < n ∧ l[j]? = some y := by
  obtain ⟨j, hj⟩ := List.mem_iff_getElem?.mp h
  rw [List.getElem?_take] at hj
  split at hj
  · exact ⟨j, by assumption, hj⟩
  · cases hj
structure LI (L : Keyed → Keyed → Bool) (la lb out : List Keyed) (ia ib : Nat) : Prop where
  perm : out.Perm (la.take ia ++ lb.take ib)
  srt : Inc L out
  ha : ∀ x ∈ out, ∀ y ∈ la.drop ia, Le L x y
  hb : ∀ x ∈ out, ∀ y ∈ lb.drop ib, Le L x y
theorem LI.swap (I : LI L la lb out ia ib) : LI L lb la out ib ia := ⟨I.perm.trans List.perm_append_comm, I.srt, I.hb, I.ha⟩
theorem LI.take (Sa : Inc L la) (I : LI L la lb out ia ib) (k : Nat) (h : ∀ x ∈ (la.drop ia).take k, ∀ y ∈ lb.drop ib, Le L x y) : LI L la lb (out ++ (la.drop ia).take k) (ia + k) ib := by
  have sd : Inc L (la.drop ia) := List.Pairwise.sublist (List.drop_sublist ..) Sa
  have sc : Inc L ((la.drop ia).take k ++ (la.drop ia).drop k) := by rw [List.take_append_drop]; exact sd
  have sp := List.pairwise_append.mp sc
  refine ⟨?_, List.pairwise_append.mpr ⟨I.srt, sp.1, fun x hx y hy => I.ha x hx y (List.mem_of_mem_take hy)⟩, fun x hx y hy => ?_, fun x hx y hy => ?_⟩
  · rw [List.take_add]
    refine (I.perm.append_right _).trans ?_
    rw [List.append_assoc, List.append_assoc]
    exact List.Perm.append_left _ List.perm_append_comm
  · rw [← List.drop_drop] at hy
    rcases List.mem_append.mp hx with hx | hx
    · exact I.ha x hx y (List.mem_of_mem_drop hy)
    · exact sp.2.2 x hx y hy
  · rcases List.mem_append.mp hx with hx | hx
    · exact I.hb x hx y hy
    · exact h x hx y hy
theorem LI.fin (Sa : Inc L la) (Sb : Inc L lb) (I : LI L la lb out ia ib) (h : ∀ x ∈ la.drop ia, ∀ y ∈ lb.drop ib, Le L x y) : (out ++ la.drop ia ++ lb.drop ib).Perm (la ++ lb) ∧ Inc L (out ++ la.drop ia ++ lb.drop ib) := by
  have J := I.take Sa (la.length - ia) fun x hx y hy => h x (List.mem_of_mem_take hx) y hy
  have e1 : (la.drop ia).take (la.length - ia) = la.drop ia := List.take_of_length_le (by simp)
  rw [e1] at J
  have J2 := J.swap.take Sb (lb.length - ib) fun x hx y hy => by
    rw [List.drop_eq_nil_of_le (by omega)] at hy; cases hy
  rw [List.take_of_length_le (by simp)] at J2
  refine ⟨J2.perm.trans ?_, J2.srt⟩
  rw [List.take_of_length_le (by omega), List.take_of_length_le (by omega)]
  exact List.perm_append_comm
structure HI (L : Keyed → Keyed → Bool) (la lb ro : List Keyed) (na nb : Nat) : Prop where
  perm : ro.Perm (la.drop na ++ lb.drop nb)
  srt : Inc L ro
  ha : ∀ x ∈ la.take na, ∀ y ∈ ro, Le L x y
  hb : ∀ x ∈ lb.take nb, ∀ y ∈ ro, Le L x y
theorem HI.swap (I : HI L la lb ro na nb) : HI L lb la ro nb na := ⟨I.perm.trans List.perm_append_comm, I.srt, I.hb, I.ha⟩
theorem HI.drop (Sa : Inc L la) (I : HI L la lb ro na nb) (k : Nat) (hk : k ≤ na) (h : ∀ x ∈ lb.take nb, ∀ y ∈ (la.take na).drop k, Le L x y) : HI L la lb ((la.take na).drop k ++ ro) k nb := by
  have sd : Inc L (la.take na) := List.Pairwise.sublist (List.take_sublist ..) Sa
  have sc : Inc L ((la.take na).take k ++ (la.take na).drop k) := by rw [List.take_append_drop]; exact sd
  have sp := List.pairwise_append.mp sc
  have ek : (la.take na).take k = la.take k := by rw [List.take_take, Nat.min_eq_left hk]
  refine ⟨?_, List.pairwise_append.mpr ⟨sp.2.1, I.srt, fun x hx y hy => I.ha x (List.mem_of_mem_drop hx) y hy⟩, fun x hx y hy => ?_, fun x hx y hy => ?_⟩
  · have e : la.drop k = (la.take na).drop k ++ la.drop na := by
      rcases Nat.lt_or_ge la.length na with c | c
      · rw [List.take_of_length_le (by omega), List.drop_eq_nil_of_le (i := na) (by omega), List.append_nil]
      · conv => lhs; rw [← List.take_append_drop na la]
        rw [List.drop_append_of_le_length (by rw [List.length_take]; omega)]
    rw [e, List.append_assoc]
    exact I.perm.append_left _
  · rw [← ek] at hx
    rcases List.mem_append.mp hy with hy | hy
    · exact sp.2.2 x hx y hy
    · exact I.ha x (List.mem_of_mem_take hx) y hy
  · rcases List.mem_append.mp hy with hy | hy
    · exact h x hx y hy
    · exact I.hb x hx y hy
theorem HI.fin (Sa : Inc L la) (Sb : Inc L lb) (I : HI L la lb ro na nb) (h : ∀ x ∈ la.take na, ∀ y ∈ lb.take nb, Le L x y) : (la.take na ++ lb.take nb ++ ro).Perm (la ++ lb) ∧ Inc L (la.take na ++ lb.take nb ++ ro) := by
  have J := I.swap.drop Sb 0 (Nat.zero_le _) fun x hx y hy => h x hx y (List.mem_of_mem_drop hy)
  have J2 := J.swap.drop Sa 0 (Nat.zero_le _) fun x hx y hy => by rw [List.take_zero] at hx; cases hx
  rw [List.drop_zero, List.drop_zero] at J2
  rw [List.append_assoc]
  refine ⟨J2.perm.trans ?_, J2.srt⟩
  rw [List.drop_zero, List.drop_zero]
end
end SR
end L2

namespace L2
open PySem PySem.W PyProof.Rows
namespace SR
section
variable {L : Keyed → Keyed → Bool} {a b out : Array Keyed} {ia ib k : Nat} {x y : Keyed}
/-- what merging leaves alone -/
structure Kp (st st' : SortSt) : Prop where
  kind : kindOf st' = kindOf st
  arr : arrOf st' = arrOf st
  pend : pendingOf st' = pendingOf st
  failed : failedOf st' = failedOf st
theorem Kp.refl (st : SortSt) : Kp st st := ⟨rfl, rfl, rfl, rfl⟩
theorem ex_toList {a : Array Keyed} {i j : Nat} : (a.extract i j).toList = (a.toList.drop i).take (j - i) := by
  simp
theorem ex_all {a : Array Keyed} {i : Nat} : (a.extract i a.size).toList = a.toList.drop i := by
  rw [ex_toList]; exact List.take_of_length_le (by simp)
theorem get_l {a : Array Keyed} {i : Nat} : a.toList[i]? = a[i]? := by simp
theorem take1 (h : a[ia]? = some x) : (a.toList.drop ia).take 1 = [x] := by
  rw [← get_l] at h
  obtain ⟨h1, h2⟩ := List.getElem?_eq_some_iff.mp h
  rw [List.drop_eq_getElem_cons h1, h2]
  rfl
theorem up (O : TO L) (Sa : Inc L a.toList) (h : a[ia]? = some x) (g : Le L y x) : ∀ z ∈ a.toList.drop ia, Le L y z := fun z hz => by
  obtain ⟨j, hj, ej⟩ := mem_drop hz
  rw [← get_l] at h
  exact g.trans O (Sa.le' O h ej hj)
noncomputable abbrev Fin (L : Keyed → Keyed → Bool) (a b r : Array Keyed) : Prop := r.toList.Perm (a.toList ++ b.toList) ∧ Inc L r.toList
noncomputable abbrev Lo (L : Keyed → Keyed → Bool) (a b out : Array Keyed) (ia ib : Nat) : Prop := LI L a.toList b.toList out.toList ia ib
theorem Lo.pushA (Sa : Inc L a.toList) (I : Lo L a b out ia ib) (h : a[ia]? = some x) (g : ∀ y ∈ b.toList.drop ib, Le L x y) : Lo L a b (out.push x) (ia + 1) ib := by
  have := LI.take Sa I 1 (by rw [take1 h]; intro z hz; rw [List.mem_singleton] at hz; rw [hz]; exact g)
  rw [take1 h] at this
  show LI L a.toList b.toList (out.push x).toList _ _
  rw [Array.toList_push]
  exact this
theorem Lo.pushB (Sb : Inc L b.toList) (I : Lo L a b out ia ib) (h : b[ib]? = some y) (g : ∀ x ∈ a.toList.drop ia, Le L y x) : Lo L a b (out.push y) ia (ib + 1) := (Lo.pushA (a := b) (b := a) Sb I.swap h g).swap
theorem Lo.chunkA (Sa : Inc L a.toList) (I : Lo L a b out ia ib) (k : Nat) (g : ∀ i x, i < k → a[ia + i]? = some x → ∀ y ∈ b.toList.drop ib, Le L x y) : Lo L a b (out ++ a.extract ia (ia + k)) (ia + k) ib := by
  have := LI.take Sa I k (fun x hx => by
    obtain ⟨j, hj, ej⟩ := mem_take hx
    rw [List.getElem?_drop, get_l] at ej
    exact g j x hj ej)
  show LI L a.toList b.toList (out ++ a.extract ia (ia + k)).toList _ _
  rw [Array.toList_append, ex_toList, Nat.add_sub_cancel_left]
  exact this
theorem Lo.chunkB (Sb : Inc L b.toList) (I : Lo L a b out ia ib) (k : Nat) (g : ∀ i y, i < k → b[ib + i]? = some y → ∀ x ∈ a.toList.drop ia, Le L y x) : Lo L a b (out ++ b.extract ib (ib + k)) ia (ib + k) := (Lo.chunkA (a := b) (b := a) Sb I.swap k g).swap
theorem Lo.done (Sa : Inc L a.toList) (Sb : Inc L b.toList) (I : Lo L a b out ia ib) (h : ia = a.size ∨ ib = b.size) : Fin L a b (out ++ a.extract ia a.size ++ b.extract ib b.size) := by
  have := LI.fin Sa Sb I fun x hx y hy => by
    rcases h with h | h
    · rw [h, List.drop_eq_nil_of_le (by simp)] at hx; cases hx
    · rw [h, List.drop_eq_nil_of_le (by simp)] at hy; cases hy
  unfold Fin
  rw [Array.toList_append, Array.toList_append, ex_all, ex_all]
  exact this
theorem Lo.last (Sa : Inc L a.toList) (Sb : Inc L b.toList) (h1 : ∀ y ∈ b.toList, ∀ x, a[a.size - 1]? = some x → Le L y x) (I : Lo L a b out ia ib) (h : ia + 1 = a.size) : Fin L a b (out ++ b.extract ib b.size ++ a.extract ia a.size) := by
  have := LI.fin Sb Sa I.swap fun y hy x hx => by
    obtain ⟨j, hj, ej⟩ := mem_drop hx
    have hl := (List.getElem?_eq_some_iff.mp ej).1
    rw [Array.length_toList] at hl
    rw [get_l] at ej
    exact h1 y (List.mem_of_mem_drop hy) x (by rw [← ej]; congr 1; omega)
  unfold Fin
  rw [Array.toList_append, Array.toList_append, ex_all, ex_all]
  exact ⟨this.1.trans List.perm_append_comm, this.2⟩
end
section
variable {prog : Program} {w : World} {A : Around} {E : Value → Shared → Prop} {s : Shared} {κ : SortKind} {U : Keyed → Prop} {L : Keyed → Keyed → Bool}
/-- how many do not come after the key -/
theorem r_right (O : TO L) (H : Asked prog w A s κ U L) {key : Keyed} {a : Array Keyed} {ia hint n : Nat} {Q : Option Nat → SortSt → Prop} {st : SortSt} (hk : kindOf st = κ) (uk : U key) (ua : ∀ x ∈ a.toList, U x) (hn : ia + n ≤ a.size)
    (Sa : ∀ i j x y, i ≤ j → j < n → a[ia + i]? = some x → a[ia + j]? = some y → Le L x y) (hh : hint < n)
    (h : ∀ k, k ≤ n → (∀ i x, i < k → a[ia + i]? = some x → Le L x key) → (∀ i x, k ≤ i → i < n → a[ia + i]? = some x → L key x = true) → Q (some k) st) : wpS (model prog w) A E s (gall false key a ia n hint) Q st := by
  have at_ : ∀ i, i < n → ∃ x, a[ia + i]? = some x ∧ U x := fun i hi => ⟨a[ia + i], Array.getElem?_eq_getElem (by omega), ua _ (by simp)⟩
  refine r_gall H (b := fun i => match a[ia + i]? with | some x => !(L key x) | none => false) hk uk (fun i hi => ?_) (fun i j hij hj hb => ?_) hh fun k hk1 hk2 hk3 => h k hk1 (fun i x hi ex => ?_) fun i x h1 h2 ex => ?_
  · obtain ⟨x, ex, ux⟩ := at_ i hi
    refine ⟨x, ex, ux, ?_⟩
    rw [if_neg Bool.false_ne_true, ex]
  · obtain ⟨x, ex, _⟩ := at_ i (by omega)
    obtain ⟨y, ey, _⟩ := at_ j hj
    try dsimp only at hb ⊢
    rw [ey] at hb
    rw [ex]
    have h1 : L key y = false := by simpa using hb
    have h2 : L key x = false := (Sa i j x y hij hj ex ey).trans O h1
    dsimp only
    rw [h2]
    rfl
  · have := hk2 i hi
    try dsimp only at this
    rw [ex] at this
    simpa using this
  · have := hk3 i h1 h2
    try dsimp only at this
    rw [ex] at this
    simpa using this
/-- how many come ahead of the key -/
theorem r_left (O : TO L) (H : Asked prog w A s κ U L) {key : Keyed} {a : Array Keyed} {ia hint n : Nat} {Q : Option Nat → SortSt → Prop} {st : SortSt} (hk : kindOf st = κ) (uk : U key) (ua : ∀ x ∈ a.toList, U x) (hn : ia + n ≤ a.size)
    (Sa : ∀ i j x y, i ≤ j → j < n → a[ia + i]? = some x → a[ia + j]? = some y → Le L x y) (hh : hint < n)
    (h : ∀ k, k ≤ n → (∀ i x, i < k → a[ia + i]? = some x → L x key = true) → (∀ i x, k ≤ i → i < n → a[ia + i]? = some x → Le L key x) → Q (some k) st) : wpS (model prog w) A E s (gall true key a ia n hint) Q st := by
  have at_ : ∀ i, i < n → ∃ x, a[ia + i]? = some x ∧ U x := fun i hi => ⟨a[ia + i], Array.getElem?_eq_getElem (by omega), ua _ (by simp)⟩
  refine r_gall H (b := fun i => match a[ia + i]? with | some x => L x key | none => false) hk uk (fun i hi => ?_) (fun i j hij hj hb => ?_) hh fun k hk1 hk2 hk3 => h k hk1 (fun i x hi ex => ?_) fun i x h1 h2 ex => ?_
  · obtain ⟨x, ex, ux⟩ := at_ i hi
    refine ⟨x, ex, ux, ?_⟩
    rw [if_pos rfl, ex]
  · obtain ⟨x, ex, _⟩ := at_ i (by omega)
    obtain ⟨y, ey, _⟩ := at_ j hj
    try dsimp only at hb ⊢
    rw [ey] at hb
    rw [ex]
    try dsimp only at hb ⊢
    cases c : L x key with
    | true => rfl
    | false =>
      have c' : Le L key x := c
      have := c'.trans O (Sa i j x y hij hj ex ey)
      rw [show L y key = false from this] at hb
      exact hb
  · have := hk2 i hi
    try dsimp only at this
    rw [ex] at this
    exact this
  · have := hk3 i h1 h2
    try dsimp only at this
    rw [ex] at this
    exact this
theorem sub_inc (O : TO L) {a : Array Keyed} (Sa : Inc L a.toList) {ia n : Nat} : ∀ i j x y, i ≤ j → j < n → a[ia + i]? = some x → a[ia + j]? = some y → Le L x y := fun i j x y hij hj ex ey =>
  Sa.le' O (by rw [get_l]; exact ex) (by rw [get_l]; exact ey) (by omega)
end
end SR
end L2

namespace L2
open PySem PySem.W PyProof.Rows
namespace SR
section
variable {prog : Program} {w : World} {A : Around} {E : Value → Shared → Prop} {s : Shared} {κ : SortKind} {U : Keyed → Prop} {L : Keyed → Keyed → Bool}
theorem r_mLo (O : TO L) (H : Asked prog w A s κ U L) {a b : Array Keyed} {Q : Array Keyed → SortSt → Prop} {st : SortSt} (hk : kindOf st = κ) (ua : ∀ x ∈ a.toList, U x) (ub : ∀ x ∈ b.toList, U x)
    (Sa : Inc L a.toList) (Sb : Inc L b.toList) (a1 : 1 ≤ a.size) (b1 : 1 ≤ b.size) (h0 : ∀ x ∈ a.toList, ∀ y, b[0]? = some y → Le L y x) (h1 : ∀ y ∈ b.toList, ∀ x, a[a.size - 1]? = some x → Le L y x)
    (h : ∀ out st', Kp st st' → Fin L a b out → Q out st') : wpS (model prog w) A E s (mLo a b) Q st := by
  have atA : ∀ i, i < a.size → ∃ x, a[i]? = some x ∧ U x := fun i hi => ⟨a[i], Array.getElem?_eq_getElem hi, ua _ (by simp)⟩
  have atB : ∀ i, i < b.size → ∃ x, b[i]? = some x ∧ U x := fun i hi => ⟨b[i], Array.getElem?_eq_getElem hi, ub _ (by simp)⟩
  refine wpS_bind (r_rule ?_)
  dsimp only
  obtain ⟨y0, e0⟩ : ∃ y, b[0]? = some y := ⟨_, Array.getElem?_eq_getElem (by omega)⟩
  refine wpS_bind (r_elem e0 ?_)
  have I0 : Lo L a b #[y0] 0 1 := by
    have z : Lo L a b #[] 0 0 := ⟨by simp, List.Pairwise.nil, fun x hx => by simp at hx, fun x hx => by simp at hx⟩
    exact Lo.pushB Sb z e0 fun x hx => h0 x (by simpa using hx) y0 e0
  by_cases d1 : (1 == b.size) = true
  · rw [if_pos d1]
    exact wpS_pure (h _ st (Kp.refl _) (I0.done Sa Sb (.inr (by simpa using d1))))
  rw [if_neg d1]
  by_cases d2 : (0 + 1 == a.size) = true
  · rw [if_pos d2]
    exact wpS_pure (h _ st (Kp.refl _) (I0.last Sa Sb h1 (by simpa using d2)))
  rw [if_neg d2]
  have d1' : 1 ≠ b.size := by simpa using d1
  have d2' : 1 ≠ a.size := by simpa using d2
  refine wpS_bind (wpS_get ?_)
  refine wpS_bind (wpS_mono (wpS_forRange (I := fun i c st' => ∃ out ia ib mg, c = (none, out, ia, ib, mg) ∧ Kp st st' ∧ Lo L a b out ia ib ∧ ia + 1 < a.size ∧ ib < b.size ∧ i + 1 ≤ ia + ib)
    (Q := fun c st' => ∃ r z, c = (some r, z) ∧ Kp st st' ∧ Fin L a b r) ?step ?fin ⟨#[y0], 0, 1, _, rfl, Kp.refl _, I0, by omega, by omega, by omega⟩) ?post)
  case fin =>
    rintro c st' ⟨out, ia, ib, mg, rfl, _, _, p1, p2, p3⟩
    omega
  case post =>
    rintro c st' ⟨r, z, rfl, K, F⟩
    exact wpS_pure (h r st' K F)
  case step =>
    rintro i c st1 _ hi ⟨out, ia, ib, mg, rfl, K1, I1, p1, p2, p3⟩
    dsimp only
    refine wpS_bind (wpS_mono (wpS_forRange (I := fun j c st' => ∃ out ia' ib' ac bc, c = (none, out, ia', ib', ac, bc) ∧ st' = st1 ∧ Lo L a b out ia' ib' ∧ ia' + 1 < a.size ∧ ib' < b.size ∧ ia + ib + j ≤ ia' + ib')
      (Q := fun c st' => st' = st1 ∧ ((∃ r z, c = (some r, z) ∧ Fin L a b r) ∨ ∃ out ia' ib' ac bc, c = (none, out, ia', ib', ac, bc) ∧ Lo L a b out ia' ib' ∧ ia' + 1 < a.size ∧ ib' < b.size ∧ ia + ib + 1 ≤ ia' + ib')) ?step1 ?fin1 ⟨out, ia, ib, 0, 0, rfl, rfl, I1, p1, p2, by omega⟩) ?post1)
    case fin1 =>
      rintro c st' ⟨out, ia', ib', ac, bc, rfl, rfl, I, q1, q2, q3⟩
      exact ⟨rfl, .inr ⟨out, ia', ib', ac, bc, rfl, I, q1, q2, by omega⟩⟩
    case step1 =>
      rintro j c st' _ hj ⟨out, ia', ib', ac, bc, rfl, rfl, I, q1, q2, q3⟩
      dsimp only
      obtain ⟨xa, ea, uxa⟩ := atA ia' (by omega)
      obtain ⟨xb, eb, uxb⟩ := atB ib' q2
      refine wpS_bind (r_elem eb (wpS_bind (r_elem ea (wpS_bind (r_lt H (K1.kind.trans hk) uxb uxa ?_)))))
      cases c : L xb xa with
      | true =>
        have J := Lo.pushB Sb I eb (up O Sa ea (Le.of_lt O c))
        refine wpS_bind (r_elem eb ?_)
        by_cases d : (ib' + 1 == b.size) = true
        · rw [if_pos d]
          exact wpS_pure ⟨rfl, .inl ⟨_, _, rfl, J.done Sa Sb (.inr (by simpa using d))⟩⟩
        · rw [if_neg d]
          have d' : ib' + 1 ≠ b.size := by simpa using d
          split
          · exact wpS_pure ⟨rfl, .inr ⟨_, _, _, _, _, rfl, J, q1, by omega, by omega⟩⟩
          · exact wpS_pure ⟨_, _, _, _, _, rfl, rfl, J, q1, by omega, by omega⟩
      | false =>
        have J := Lo.pushA Sa I ea (up O Sb eb c)
        refine wpS_bind (r_elem ea ?_)
        by_cases d : (ia' + 1 + 1 == a.size) = true
        · rw [if_pos d]
          exact wpS_pure ⟨rfl, .inl ⟨_, _, rfl, J.last Sa Sb h1 (by simpa using d)⟩⟩
        · rw [if_neg d]
          have d' : ia' + 1 + 1 ≠ a.size := by simpa using d
          split
          · exact wpS_pure ⟨rfl, .inr ⟨_, _, _, _, _, rfl, J, by omega, q2, by omega⟩⟩
          · exact wpS_pure ⟨_, _, _, _, _, rfl, rfl, J, by omega, q2, by omega⟩
    case post1 =>
      rintro c st' ⟨rfl, ⟨r, ⟨z1, z2, z3, z4, z5⟩, rfl, F⟩ | ⟨out, ia', ib', ac, bc, rfl, I2, q1, q2, q3⟩⟩
      · exact wpS_pure ⟨r, _, rfl, K1, F⟩
      · dsimp only
        refine wpS_bind (r_rule ?_)
        refine wpS_bind (wpS_mono (wpS_forRange (I := fun j c st' => ∃ out ja jb mg ac bc, c = (none, out, ja, jb, mg, ac, bc) ∧ Kp st st' ∧ Lo L a b out ja jb ∧ ja + 1 < a.size ∧ jb < b.size ∧ ia' + ib' ≤ ja + jb)
          (Q := fun c st' => Kp st st' ∧ ((∃ r z, c = (some r, z) ∧ Fin L a b r) ∨ ∃ out ja jb mg ac bc, c = (none, out, ja, jb, mg, ac, bc) ∧ Lo L a b out ja jb ∧ ja + 1 < a.size ∧ jb < b.size ∧ ia' + ib' ≤ ja + jb)) ?step2 ?fin2 ⟨out, ia', ib', _, ac, bc, rfl, K1, I2, q1, q2, Nat.le_refl _⟩) ?post2)
        case fin2 =>
          rintro c st' ⟨out, ja, jb, mg, ac, bc, rfl, K, I, r1, r2, r3⟩
          exact ⟨K, .inr ⟨out, ja, jb, mg, ac, bc, rfl, I, r1, r2, r3⟩⟩
        case post2 =>
          rintro c st' ⟨K, ⟨r, ⟨z1, z2, z3, z4, z5, z6⟩, rfl, F⟩ | ⟨out, ja, jb, mg, ac, bc, rfl, I, r1, r2, r3⟩⟩
          · exact wpS_pure ⟨r, _, rfl, K, F⟩
          · dsimp only
            exact wpS_bind (wpS_modify (wpS_pure ⟨out, ja, jb, _, rfl, ⟨K.kind, K.arr, K.pend, K.failed⟩, I, r1, r2, by omega⟩))
        case step2 =>
          rintro j c st' _ hj ⟨out, ja, jb, mg, ac, bc, rfl, K, I, r1, r2, r3⟩
          dsimp only
          obtain ⟨xb, eb, uxb⟩ := atB jb r2
          by_cases cg : mg > 1
          case' pos => rw [if_pos cg]
          case' neg => rw [if_neg cg]
          all_goals
            refine wpS_bind (wpS_modify (wpS_bind (r_elem eb ?_)))
            refine wpS_bind (r_right O H (K.kind.trans hk) uxb ua (by omega) (sub_inc O Sa) (by omega) fun k k1 k2 k3 => ?_)
            dsimp only
            have up_b : ∀ y ∈ b.toList.drop jb, Le L xb y := up O Sb eb (irr O xb)
            by_cases ck : k > 0
            case' pos =>
              rw [if_pos ck]
              have J := Lo.chunkA Sa I k fun i x hi ex y hy => (k2 i x hi ex).trans O (up_b y hy)
              by_cases d : (ja + k + 1 == a.size) = true
              · rw [if_pos d]
                exact wpS_pure ⟨⟨K.kind, K.arr, K.pend, K.failed⟩, .inl ⟨_, _, rfl, J.last Sa Sb h1 (by simpa using d)⟩⟩
              rw [if_neg d]
              by_cases e : (ja + k == a.size) = true
              · rw [if_pos e]
                exact wpS_pure ⟨⟨K.kind, K.arr, K.pend, K.failed⟩, .inl ⟨_, _, rfl, J.done Sa Sb (.inl (by simpa using e))⟩⟩
              rw [if_neg e]
              have f2 : ja + k + 1 < a.size := by
                have d' : ja + k + 1 ≠ a.size := by simpa using d
                have e' : ja + k ≠ a.size := by simpa using e
                omega
              have g2 : ∀ x ∈ a.toList.drop (ja + k), Le L xb x := by
                obtain ⟨xx, ex, _⟩ := atA (ja + k) (by omega)
                exact up O Sa ex (Le.of_lt O (k3 k xx (Nat.le_refl _) (by omega) ex))
              have r3' : ia' + ib' ≤ ja + k + jb := by omega
              clear d e k2 k3 k1
              generalize out ++ a.extract ja (ja + k) = out2 at J ⊢
              generalize ja + k = ja2 at J f2 g2 r3' ⊢
            case' neg =>
              rw [if_neg ck]
              have J := I
              have f2 := r1
              have g2 : ∀ x ∈ a.toList.drop ja, Le L xb x := by
                obtain ⟨xx, ex, _⟩ := atA ja (by omega)
                exact up O Sa ex (Le.of_lt O (k3 0 xx (by omega) (by omega) ex))
              have r3' := r3
              clear k2 k3 k1
              generalize out = out2 at J ⊢
              generalize ja = ja2 at J f2 g2 r3' ⊢
            all_goals
              refine wpS_bind (r_elem eb ?_)
              have J2 := Lo.pushB Sb J eb g2
              clear J g2
              by_cases d : (jb + 1 == b.size) = true
              · rw [if_pos d]
                exact wpS_pure ⟨⟨K.kind, K.arr, K.pend, K.failed⟩, .inl ⟨_, _, rfl, J2.done Sa Sb (.inr (by simpa using d))⟩⟩
              rw [if_neg d]
              have d' : jb + 1 ≠ b.size := by simpa using d
              obtain ⟨xa, ea, uxa⟩ := atA ja2 (by omega)
              refine wpS_bind (r_elem ea ?_)
              refine wpS_bind (r_left O H (K.kind.trans hk) uxa ub (by omega) (sub_inc O Sb) (by omega) fun m m1 m2 m3 => ?_)
              dsimp only
              have up_a : ∀ y ∈ a.toList.drop ja2, Le L xa y := up O Sa ea (irr O xa)
              generalize out2.push xb = out3 at J2 ⊢
              by_cases cm : m > 0
              case' pos =>
                rw [if_pos cm]
                have J3 := Lo.chunkB Sb J2 m fun i y hi ey x hx => (Le.of_lt O (m2 i y hi ey)).trans O (up_a x hx)
                by_cases d : (jb + 1 + m == b.size) = true
                · rw [if_pos d]
                  exact wpS_pure ⟨⟨K.kind, K.arr, K.pend, K.failed⟩, .inl ⟨_, _, rfl, J3.done Sa Sb (.inr (by simpa using d))⟩⟩
                rw [if_neg d]
                have f3 : jb + 1 + m < b.size := by
                  have d' : jb + 1 + m ≠ b.size := by simpa using d
                  omega
                have g3 : ∀ y ∈ b.toList.drop (jb + 1 + m), Le L xa y := by
                  obtain ⟨xx, ex, _⟩ := atB (jb + 1 + m) (by omega)
                  exact up O Sb ex (m3 m xx (Nat.le_refl _) (by omega) ex)
                have r4 : ia' + ib' ≤ ja2 + (jb + 1 + m) := by omega
                generalize out3 ++ b.extract (jb + 1) (jb + 1 + m) = out4 at J3 ⊢
                generalize jb + 1 + m = jb2 at J3 f3 g3 r4 ⊢
              case' neg =>
                rw [if_neg cm]
                have J3 := J2
                have f3 : jb + 1 < b.size := by omega
                have g3 : ∀ y ∈ b.toList.drop (jb + 1), Le L xa y := by
                  obtain ⟨xx, ex, _⟩ := atB (jb + 1) (by omega)
                  exact up O Sb ex (m3 0 xx (by omega) (by omega) ex)
                have r4 : ia' + ib' ≤ ja2 + (jb + 1) := by omega
                generalize out3 = out4 at J3 ⊢
                generalize jb + 1 = jb2 at J3 f3 g3 r4 ⊢
              all_goals
                refine wpS_bind (r_elem ea ?_)
                have J4 := Lo.pushA Sa J3 ea g3
                by_cases d : (ja2 + 1 + 1 == a.size) = true
                · rw [if_pos d]
                  exact wpS_pure ⟨⟨K.kind, K.arr, K.pend, K.failed⟩, .inl ⟨_, _, rfl, J4.last Sa Sb h1 (by simpa using d)⟩⟩
                rw [if_neg d]
                have d' : ja2 + 1 + 1 ≠ a.size := by simpa using d
                split
                · exact wpS_pure ⟨⟨K.kind, K.arr, K.pend, K.failed⟩, .inr ⟨_, _, _, _, _, _, rfl, J4, by omega, f3, by omega⟩⟩
                · exact wpS_pure ⟨_, _, _, _, _, _, rfl, ⟨K.kind, K.arr, K.pend, K.failed⟩, J4, by omega, f3, by omega⟩
end
end SR
end L2

namespace L2
open PySem PySem.W PyProof.Rows
namespace SR
section
variable {L : Keyed → Keyed → Bool} {a b out : Array Keyed} {na nb k : Nat} {x y : Keyed}
theorem dn (O : TO L) (Sa : Inc L a.toList) (h : a[na - 1]? = some x) (g : Le L x y) : ∀ z ∈ a.toList.take na, Le L z y := fun z hz => by
  obtain ⟨j, hj, ej⟩ := mem_take hz
  rw [← get_l] at h
  exact (Sa.le' O ej h (by omega)).trans O g
theorem drop1 (hn : 1 ≤ na) (h : a[na - 1]? = some x) : (a.toList.take na).drop (na - 1) = [x] := by
  rw [← get_l] at h
  obtain ⟨h1, h2⟩ := List.getElem?_eq_some_iff.mp h
  have e : na = (na - 1) + 1 := by omega
  rw [show a.toList.take na = a.toList.take ((na - 1) + 1) by rw [← e], List.take_add_one, h, List.drop_append_of_le_length (by rw [List.length_take]; omega), List.drop_eq_nil_of_le (by rw [List.length_take]; omega)]
  rfl
noncomputable abbrev Hi (L : Keyed → Keyed → Bool) (a b out : Array Keyed) (na nb : Nat) : Prop := HI L a.toList b.toList out.toList.reverse na nb
theorem Hi.pushA (Sa : Inc L a.toList) (I : Hi L a b out na nb) (hn : 1 ≤ na) (h : a[na - 1]? = some x) (g : ∀ y ∈ b.toList.take nb, Le L y x) : Hi L a b (out.push x) (na - 1) nb := by
  have := HI.drop Sa I (na - 1) (by omega) (by rw [drop1 hn h]; intro y hy z hz; rw [List.mem_singleton] at hz; rw [hz]; exact g y hy)
  rw [drop1 hn h] at this
  show HI L a.toList b.toList (out.push x).toList.reverse _ _
  rw [Array.toList_push, List.reverse_append]
  exact this
theorem Hi.pushB (Sb : Inc L b.toList) (I : Hi L a b out na nb) (hn : 1 ≤ nb) (h : b[nb - 1]? = some y) (g : ∀ x ∈ a.toList.take na, Le L x y) : Hi L a b (out.push y) na (nb - 1) := (Hi.pushA (a := b) (b := a) Sb I.swap hn h g).swap
theorem Hi.chunkA (Sa : Inc L a.toList) (I : Hi L a b out na nb) (at_ : Nat) (h1 : at_ ≤ na) (g : ∀ i x, at_ ≤ i → i < na → a[i]? = some x → ∀ y ∈ b.toList.take nb, Le L y x) : Hi L a b (out ++ (a.extract at_ na).reverse) at_ nb := by
  have e : (a.extract at_ na).toList = (a.toList.take na).drop at_ := by rw [ex_toList, List.take_drop]; congr 2; omega
  have := HI.drop Sa I at_ h1 (fun y hy x hx => by
    obtain ⟨j, hj, ej⟩ := mem_drop hx
    rw [List.getElem?_take] at ej
    split at ej
    · rw [get_l] at ej
      exact g j x hj (by assumption) ej y hy
    · cases ej)
  show HI L a.toList b.toList (out ++ (a.extract at_ na).reverse).toList.reverse _ _
  rw [Array.toList_append, Array.toList_reverse, List.reverse_append, List.reverse_reverse, e]
  exact this
theorem Hi.chunkB (Sb : Inc L b.toList) (I : Hi L a b out na nb) (at_ : Nat) (h1 : at_ ≤ nb) (g : ∀ i y, at_ ≤ i → i < nb → b[i]? = some y → ∀ x ∈ a.toList.take na, Le L x y) : Hi L a b (out ++ (b.extract at_ nb).reverse) na at_ := (Hi.chunkA (a := b) (b := a) Sb I.swap at_ h1 g).swap
theorem ex0 {a : Array Keyed} {n : Nat} : (a.extract 0 n).toList = a.toList.take n := by rw [ex_toList]; rfl
theorem Hi.done (Sa : Inc L a.toList) (Sb : Inc L b.toList) (I : Hi L a b out na nb) (h : na = 0 ∨ nb = 0) : Fin L a b (a.extract 0 na ++ b.extract 0 nb ++ out.reverse) := by
  have := HI.fin Sa Sb I fun x hx y hy => by
    rcases h with h | h
    · rw [h] at hx; cases hx
    · rw [h] at hy; cases hy
  unfold Fin
  rw [Array.toList_append, Array.toList_append, ex0, ex0, Array.toList_reverse]
  exact this
theorem Hi.first (Sa : Inc L a.toList) (Sb : Inc L b.toList) (h0 : ∀ x ∈ a.toList, ∀ y, b[0]? = some y → Le L y x) (I : Hi L a b out na nb) (h : nb = 1) : Fin L a b (b.extract 0 nb ++ a.extract 0 na ++ out.reverse) := by
  have := HI.fin Sb Sa I.swap fun y hy x hx => by
    obtain ⟨j, hj, ej⟩ := mem_take hy
    rw [get_l] at ej
    exact h0 x (List.mem_of_mem_take hx) y (by rw [← ej]; congr 1; omega)
  unfold Fin
  rw [Array.toList_append, Array.toList_append, ex0, ex0, Array.toList_reverse]
  exact ⟨this.1.trans List.perm_append_comm, this.2⟩
end
section
variable {prog : Program} {w : World} {A : Around} {E : Value → Shared → Prop} {s : Shared} {κ : SortKind} {U : Keyed → Prop} {L : Keyed → Keyed → Bool}
theorem z_ {a : Array Keyed} {i : Nat} : a[0 + i]? = a[i]? := by rw [Nat.zero_add]
theorem r_mHi (O : TO L) (H : Asked prog w A s κ U L) {a b : Array Keyed} {Q : Array Keyed → SortSt → Prop} {st : SortSt} (hk : kindOf st = κ) (ua : ∀ x ∈ a.toList, U x) (ub : ∀ x ∈ b.toList, U x)
    (Sa : Inc L a.toList) (Sb : Inc L b.toList) (a1 : 1 ≤ a.size) (b1 : 1 ≤ b.size) (h0 : ∀ x ∈ a.toList, ∀ y, b[0]? = some y → Le L y x) (h1 : ∀ y ∈ b.toList, ∀ x, a[a.size - 1]? = some x → Le L y x)
    (h : ∀ out st', Kp st st' → Fin L a b out → Q out st') : wpS (model prog w) A E s (mHi a b) Q st := by
  have atA : ∀ i, i < a.size → ∃ x, a[i]? = some x ∧ U x := fun i hi => ⟨a[i], Array.getElem?_eq_getElem hi, ua _ (by simp)⟩
  have atB : ∀ i, i < b.size → ∃ x, b[i]? = some x ∧ U x := fun i hi => ⟨b[i], Array.getElem?_eq_getElem hi, ub _ (by simp)⟩
  refine wpS_bind (r_rule ?_)
  dsimp only
  obtain ⟨x0, e0, _⟩ := atA (a.size - 1) (by omega)
  refine wpS_bind (r_elem e0 ?_)
  have I0 : Hi L a b #[x0] (a.size - 1) b.size := by
    have z : Hi L a b #[] a.size b.size := ⟨by simp, List.Pairwise.nil, fun x hx y hy => by simp at hy, fun x hx y hy => by simp at hy⟩
    exact Hi.pushA Sa z a1 e0 fun y hy => h1 y (List.mem_of_mem_take hy) x0 e0
  by_cases d1 : (a.size - 1 == 0) = true
  · rw [if_pos d1]
    exact wpS_pure (h _ st (Kp.refl _) (I0.done Sa Sb (.inl (by simpa using d1))))
  rw [if_neg d1]
  by_cases d2 : (b.size == 1) = true
  · rw [if_pos d2]
    exact wpS_pure (h _ st (Kp.refl _) (I0.first Sa Sb h0 (by simpa using d2)))
  rw [if_neg d2]
  have d1' : a.size - 1 ≠ 0 := by simpa using d1
  have d2' : b.size ≠ 1 := by simpa using d2
  refine wpS_bind (wpS_get ?_)
  refine wpS_bind (wpS_mono (wpS_forRange (I := fun i c st' => ∃ na nb out mg, c = (none, na, nb, out, mg) ∧ Kp st st' ∧ Hi L a b out na nb ∧ 1 ≤ na ∧ na < a.size ∧ 2 ≤ nb ∧ nb ≤ b.size ∧ i + 1 ≤ (a.size - na) + (b.size - nb))
    (Q := fun c st' => ∃ r z, c = (some r, z) ∧ Kp st st' ∧ Fin L a b r) ?step ?fin ⟨_, _, _, _, rfl, Kp.refl _, I0, by omega, by omega, by omega, by omega, by omega⟩) ?post)
  case fin =>
    rintro c st' ⟨na, nb, out, mg, rfl, _, _, p1, p2, p3, p4, p5⟩
    omega
  case post =>
    rintro c st' ⟨r, z, rfl, K, F⟩
    exact wpS_pure (h r st' K F)
  case step =>
    rintro i c st1 _ hi ⟨na, nb, out, mg, rfl, K1, I1, p1, p2, p3, p4, p5⟩
    dsimp only
    refine wpS_bind (wpS_mono (wpS_forRange (I := fun j c st' => ∃ na' nb' out ac bc, c = (none, na', nb', out, ac, bc) ∧ st' = st1 ∧ Hi L a b out na' nb' ∧ 1 ≤ na' ∧ na' < a.size ∧ 2 ≤ nb' ∧ nb' ≤ b.size ∧ (a.size - na) + (b.size - nb) + j ≤ (a.size - na') + (b.size - nb'))
      (Q := fun c st' => st' = st1 ∧ ((∃ r z, c = (some r, z) ∧ Fin L a b r) ∨ ∃ na' nb' out ac bc, c = (none, na', nb', out, ac, bc) ∧ Hi L a b out na' nb' ∧ 1 ≤ na' ∧ na' < a.size ∧ 2 ≤ nb' ∧ nb' ≤ b.size ∧ (a.size - na) + (b.size - nb) + 1 ≤ (a.size - na') + (b.size - nb'))) ?step1 ?fin1 ⟨na, nb, out, 0, 0, rfl, rfl, I1, p1, p2, p3, p4, by omega⟩) ?post1)
    case fin1 =>
      rintro c st' ⟨na', nb', out, ac, bc, rfl, rfl, I, q1, q2, q3, q4, q5⟩
      exact ⟨rfl, .inr ⟨na', nb', out, ac, bc, rfl, I, q1, q2, q3, q4, by omega⟩⟩
    case step1 =>
      rintro j c st' _ hj ⟨na', nb', out, ac, bc, rfl, rfl, I, q1, q2, q3, q4, q5⟩
      dsimp only
      obtain ⟨xa, ea, uxa⟩ := atA (na' - 1) (by omega)
      obtain ⟨xb, eb, uxb⟩ := atB (nb' - 1) (by omega)
      refine wpS_bind (r_elem eb (wpS_bind (r_elem ea (wpS_bind (r_lt H (K1.kind.trans hk) uxb uxa ?_)))))
      cases c : L xb xa with
      | true =>
        have J := Hi.pushA Sa I q1 ea (dn O Sb eb (Le.of_lt O c))
        refine wpS_bind (r_elem ea ?_)
        by_cases d : (na' - 1 == 0) = true
        · rw [if_pos d]
          exact wpS_pure ⟨rfl, .inl ⟨_, _, rfl, J.done Sa Sb (.inl (by simpa using d))⟩⟩
        · rw [if_neg d]
          have d' : na' - 1 ≠ 0 := by simpa using d
          split
          · exact wpS_pure ⟨rfl, .inr ⟨_, _, _, _, _, rfl, J, by omega, by omega, q3, q4, by omega⟩⟩
          · exact wpS_pure ⟨_, _, _, _, _, rfl, rfl, J, by omega, by omega, q3, q4, by omega⟩
      | false =>
        have J := Hi.pushB Sb I (by omega) eb (dn O Sa ea c)
        refine wpS_bind (r_elem eb ?_)
        by_cases d : (nb' - 1 == 1) = true
        · rw [if_pos d]
          exact wpS_pure ⟨rfl, .inl ⟨_, _, rfl, J.first Sa Sb h0 (by simpa using d)⟩⟩
        · rw [if_neg d]
          have d' : nb' - 1 ≠ 1 := by simpa using d
          split
          · exact wpS_pure ⟨rfl, .inr ⟨_, _, _, _, _, rfl, J, q1, q2, by omega, by omega, by omega⟩⟩
          · exact wpS_pure ⟨_, _, _, _, _, rfl, rfl, J, q1, q2, by omega, by omega, by omega⟩
    case post1 =>
      rintro c st' ⟨rfl, ⟨r, ⟨z1, z2, z3, z4, z5⟩, rfl, F⟩ | ⟨na', nb', out, ac, bc, rfl, I2, q1, q2, q3, q4, q5⟩⟩
      · exact wpS_pure ⟨r, _, rfl, K1, F⟩
      · dsimp only
        refine wpS_bind (r_rule ?_)
        refine wpS_bind (wpS_mono (wpS_forRange (I := fun j c st' => ∃ ma mb out mg ac bc, c = (none, ma, mb, out, mg, ac, bc) ∧ Kp st st' ∧ Hi L a b out ma mb ∧ 1 ≤ ma ∧ ma ≤ na' ∧ 2 ≤ mb ∧ mb ≤ nb')
          (Q := fun c st' => Kp st st' ∧ ((∃ r z, c = (some r, z) ∧ Fin L a b r) ∨ ∃ ma mb out mg ac bc, c = (none, ma, mb, out, mg, ac, bc) ∧ Hi L a b out ma mb ∧ 1 ≤ ma ∧ ma ≤ na' ∧ 2 ≤ mb ∧ mb ≤ nb')) ?step2 ?fin2 ⟨na', nb', out, _, ac, bc, rfl, K1, I2, q1, Nat.le_refl _, q3, Nat.le_refl _⟩) ?post2)
        case fin2 =>
          rintro c st' ⟨ma, mb, out, mg, ac, bc, rfl, K, I, r1, r2, r3, r4⟩
          exact ⟨K, .inr ⟨ma, mb, out, mg, ac, bc, rfl, I, r1, r2, r3, r4⟩⟩
        case post2 =>
          rintro c st' ⟨K, ⟨r, ⟨z1, z2, z3, z4, z5, z6⟩, rfl, F⟩ | ⟨ma, mb, out, mg, ac, bc, rfl, I, r1, r2, r3, r4⟩⟩
          · exact wpS_pure ⟨r, _, rfl, K, F⟩
          · dsimp only
            exact wpS_bind (wpS_modify (wpS_pure ⟨ma, mb, out, _, rfl, ⟨K.kind, K.arr, K.pend, K.failed⟩, I, r1, by omega, r3, by omega, by omega⟩))
        case step2 =>
          rintro j c st' _ hj ⟨ma, mb, out, mg, ac, bc, rfl, K, I, r1, r2, r3, r4⟩
          dsimp only
          obtain ⟨xb, eb, uxb⟩ := atB (mb - 1) (by omega)
          by_cases cg : mg > 1
          case' pos => rw [if_pos cg]
          case' neg => rw [if_neg cg]
          all_goals
            refine wpS_bind (wpS_modify (wpS_bind (r_elem eb ?_)))
            refine wpS_bind (r_right O H (K.kind.trans hk) uxb ua (by omega) (sub_inc O Sa) (by omega) fun t k1 k2 k3 => ?_)
            dsimp only
            have dn_b : ∀ y ∈ b.toList.take mb, Le L y xb := dn O Sb eb (irr O xb)
            by_cases ck : ma - t > 0
            case' pos =>
              rw [if_pos ck]
              have J := Hi.chunkA Sa I t k1 fun i x hi1 hi2 ex y hy => (dn_b y hy).trans O (Le.of_lt O (k3 i x hi1 hi2 (by rw [z_]; exact ex)))
              by_cases d : (t == 0) = true
              · rw [if_pos d]
                exact wpS_pure ⟨⟨K.kind, K.arr, K.pend, K.failed⟩, .inl ⟨_, _, rfl, J.done Sa Sb (.inl (by simpa using d))⟩⟩
              rw [if_neg d]
              have f2 : 1 ≤ t := by
                have d' : t ≠ 0 := by simpa using d
                omega
              have g2 : ∀ x ∈ a.toList.take t, Le L x xb := fun x hx => by
                obtain ⟨i, hi, ei⟩ := mem_take hx
                exact k2 i x hi (by rw [z_, ← get_l]; exact ei)
              have r2' : t ≤ na' := by omega
              clear d k2 k3 k1
              generalize out ++ (a.extract t ma).reverse = out2 at J ⊢
              generalize t = ma2 at J f2 g2 r2' ⊢
            case' neg =>
              rw [if_neg ck]
              have J := I
              have f2 := r1
              have g2 : ∀ x ∈ a.toList.take ma, Le L x xb := fun x hx => by
                obtain ⟨i, hi, ei⟩ := mem_take hx
                exact k2 i x (by omega) (by rw [z_, ← get_l]; exact ei)
              have r2' := r2
              clear k2 k3 k1
              generalize out = out2 at J ⊢
              generalize ma = ma2 at J f2 g2 r2' ⊢
            all_goals
              refine wpS_bind (r_elem eb ?_)
              have J2 := Hi.pushB Sb J (by omega) eb g2
              clear J g2
              by_cases d : (mb - 1 == 1) = true
              · rw [if_pos d]
                exact wpS_pure ⟨⟨K.kind, K.arr, K.pend, K.failed⟩, .inl ⟨_, _, rfl, J2.first Sa Sb h0 (by simpa using d)⟩⟩
              rw [if_neg d]
              have d' : mb - 1 ≠ 1 := by simpa using d
              obtain ⟨xa, ea, uxa⟩ := atA (ma2 - 1) (by omega)
              refine wpS_bind (r_elem ea ?_)
              refine wpS_bind (r_left O H (K.kind.trans hk) uxa ub (by omega) (sub_inc O Sb) (by omega) fun m m1 m2 m3 => ?_)
              dsimp only
              have dn_a : ∀ y ∈ a.toList.take ma2, Le L y xa := dn O Sa ea (irr O xa)
              generalize out2.push xb = out3 at J2 ⊢
              by_cases cm : mb - 1 - m > 0
              case' pos =>
                rw [if_pos cm]
                have J3 := Hi.chunkB Sb J2 m m1 fun i y hi1 hi2 ey x hx => (dn_a x hx).trans O (m3 i y hi1 hi2 (by rw [z_]; exact ey))
                by_cases d : (m == 1) = true
                · rw [if_pos d]
                  exact wpS_pure ⟨⟨K.kind, K.arr, K.pend, K.failed⟩, .inl ⟨_, _, rfl, J3.first Sa Sb h0 (by simpa using d)⟩⟩
                rw [if_neg d]
                by_cases e : (m == 0) = true
                · rw [if_pos e]
                  exact wpS_pure ⟨⟨K.kind, K.arr, K.pend, K.failed⟩, .inl ⟨_, _, rfl, J3.done Sa Sb (.inr (by simpa using e))⟩⟩
                rw [if_neg e]
                have f3 : 2 ≤ m := by
                  have d' : m ≠ 1 := by simpa using d
                  have e' : m ≠ 0 := by simpa using e
                  omega
                have g3 : ∀ y ∈ b.toList.take m, Le L y xa := fun y hy => by
                  obtain ⟨i, hi, ei⟩ := mem_take hy
                  exact Le.of_lt O (m2 i y hi (by rw [z_, ← get_l]; exact ei))
                have r4' : m ≤ nb' := by omega
                clear d e m2 m3 m1
                generalize out3 ++ (b.extract m (mb - 1)).reverse = out4 at J3 ⊢
                generalize m = mb2 at J3 f3 g3 r4' ⊢
              case' neg =>
                rw [if_neg cm]
                have J3 := J2
                have f3 : 2 ≤ mb - 1 := by omega
                have g3 : ∀ y ∈ b.toList.take (mb - 1), Le L y xa := fun y hy => by
                  obtain ⟨i, hi, ei⟩ := mem_take hy
                  exact Le.of_lt O (m2 i y (by omega) (by rw [z_, ← get_l]; exact ei))
                have r4' : mb - 1 ≤ nb' := by omega
                clear m2 m3 m1
                generalize out3 = out4 at J3 ⊢
                generalize mb - 1 = mb2 at J3 f3 g3 r4' ⊢
              all_goals
                refine wpS_bind (r_elem ea ?_)
                have J4 := Hi.pushA Sa J3 f2 ea g3
                by_cases d : (ma2 - 1 == 0) = true
                · rw [if_pos d]
                  exact wpS_pure ⟨⟨K.kind, K.arr, K.pend, K.failed⟩, .inl ⟨_, _, rfl, J4.done Sa Sb (.inl (by simpa using d))⟩⟩
                rw [if_neg d]
                have d' : ma2 - 1 ≠ 0 := by simpa using d
                split
                · exact wpS_pure ⟨⟨K.kind, K.arr, K.pend, K.failed⟩, .inr ⟨_, _, _, _, _, _, rfl, J4, by omega, by omega, f3, by omega⟩⟩
                · exact wpS_pure ⟨_, _, _, _, _, _, rfl, ⟨K.kind, K.arr, K.pend, K.failed⟩, J4, by omega, by omega, f3, by omega⟩
end
end SR
end L2

namespace L2
open PySem PySem.W PyProof.Rows
namespace SR
/-! ### two neighbouring runs made one -/
section
variable {L : Keyed → Keyed → Bool}
theorem put_list : ∀ (l : List Keyed) (k sa : Nat) (xs : Array Keyed), sa + k + l.length ≤ xs.size → ((l.zipIdx k).foldl (fun a (q : Keyed × Nat) => a.setIfInBounds (sa + q.2) q.1) xs).toList = xs.toList.take (sa + k) ++ l ++ xs.toList.drop (sa + k + l.length)
  | [], k, sa, xs, h => by simp
  | x :: l, k, sa, xs, h => by
    rw [List.length_cons] at h
    rw [List.zipIdx_cons, List.foldl_cons, put_list l (k + 1) sa _ (by rw [Array.size_setIfInBounds]; omega), Array.toList_setIfInBounds]
    have e1 : (xs.toList.set (sa + k) x).take (sa + (k + 1)) = xs.toList.take (sa + k) ++ [x] := by
      rw [← Nat.add_assoc, List.take_add_one, List.take_set_of_le (Nat.le_refl _), List.getElem?_set_self (by rw [Array.length_toList]; omega)]
      rfl
    have e2 : (xs.toList.set (sa + k) x).drop (sa + (k + 1) + l.length) = xs.toList.drop (sa + k + (x :: l).length) := by
      rw [List.drop_set_of_lt (by omega), List.length_cons]
      congr 1
      omega
    rw [e1, e2, List.append_assoc, List.append_assoc, List.append_assoc]
    rfl
theorem join_inc (O : TO L) {ra rb mg : List Keyed} {k n : Nat} {y0 xl : Keyed} (Sa : Inc L ra) (Sb : Inc L rb) (hy : rb[0]? = some y0) (hx : ra[ra.length - 1]? = some xl)
    (c1 : ∀ x ∈ ra.take k, Le L x y0) (c2 : ∀ y ∈ rb.drop n, Le L xl y) (hp : mg.Perm (ra.drop k ++ rb.take n)) (hi : Inc L mg) : (ra.take k ++ mg ++ rb.drop n).Perm (ra ++ rb) ∧ Inc L (ra.take k ++ mg ++ rb.drop n) := by
  have y_le : ∀ y ∈ rb, Le L y0 y := fun y h => by
    obtain ⟨j, hj⟩ := List.mem_iff_getElem?.mp h
    exact Sb.le' O hy hj (Nat.zero_le _)
  have le_x : ∀ x ∈ ra, Le L x xl := fun x h => by
    obtain ⟨j, hj⟩ := List.mem_iff_getElem?.mp h
    have := (List.getElem?_eq_some_iff.mp hj).1
    exact Sa.le' O hj hx (by omega)
  have sa := List.pairwise_append.mp (show Inc L (ra.take k ++ ra.drop k) by rw [List.take_append_drop]; exact Sa)
  have sb := List.pairwise_append.mp (show Inc L (rb.take n ++ rb.drop n) by rw [List.take_append_drop]; exact Sb)
  refine ⟨?_, List.pairwise_append.mpr ⟨List.pairwise_append.mpr ⟨sa.1, hi, fun x hx' y hy' => ?_⟩, sb.2.1, fun x hx' y hy' => ?_⟩⟩
  · refine ((hp.append_left _).append_right _).trans ?_
    conv => rhs; rw [← List.take_append_drop k ra, ← List.take_append_drop n rb]
    simp only [List.append_assoc]
    exact List.Perm.refl _
  · rcases List.mem_append.mp (hp.mem_iff.mp hy') with z | z
    · exact sa.2.2 x hx' y z
    · exact (c1 x hx').trans O (y_le y (List.mem_of_mem_take z))
  · rcases List.mem_append.mp hx' with z | z
    · exact (le_x x (List.mem_of_mem_take z)).trans O (c2 y hy')
    · rcases List.mem_append.mp (hp.mem_iff.mp z) with z | z
      · exact (le_x x (List.mem_of_mem_drop z)).trans O (c2 y hy')
      · exact sb.2.2 x z y hy'
end
section
variable {prog : Program} {w : World} {A : Around} {E : Value → Shared → Prop} {s : Shared} {κ : SortKind} {U : Keyed → Prop} {L : Keyed → Keyed → Bool}
theorem r_set {st1 st : SortSt} {Q : PUnit → SortSt → Prop} (h : Q ⟨⟩ st1) : wpS (model prog w) A E s (set st1 : StateT SortSt Sem PUnit) Q st := by
  unfold wpS
  rw [StateT.run_set]
  exact wpAny_pure ⟨rfl, h⟩
theorem pend_join {p : Array (Nat × Nat × Nat)} {u v z : Nat × Nat × Nat} {ps1 ps2 : List (Nat × Nat × Nat)} {i : Nat} (hp : p.toList = ps1 ++ u :: v :: ps2) (hi : i = ps1.length) : ((p.setIfInBounds i z).eraseIdxIfInBounds (i + 1)).toList = ps1 ++ z :: ps2 := by
  have hs : p.size = ps1.length + (ps2.length + 2) := by rw [← Array.length_toList, hp]; simp
  unfold Array.eraseIdxIfInBounds
  rw [dif_pos (by rw [Array.size_setIfInBounds]; omega), Array.toList_eraseIdx, Array.toList_setIfInBounds, hp, hi, List.set_append_right _ _ (Nat.le_refl _), Nat.sub_self, List.set_cons_zero, List.eraseIdx_append_of_length_le (by omega), Nat.add_sub_cancel_left]
  rfl
theorem r_mergeAt (O : TO L) (H : Asked prog w A s κ U L) {i sa na pw sb nb pz : Nat} {ps1 ps2 : List (Nat × Nat × Nat)} {P ra rb S : List Keyed} {Q : Bool → SortSt → Prop} {st : SortSt} (hk : kindOf st = κ) (hf : failedOf st = none)
    (hp : (pendingOf st).toList = ps1 ++ (sa, na, pw) :: (sb, nb, pz) :: ps2) (hi : i = ps1.length) (ha : (arrOf st).toList = P ++ ra ++ rb ++ S) (ua : ∀ x ∈ (arrOf st).toList, U x)
    (e1 : sa = P.length) (e2 : na = ra.length) (e3 : sb = P.length + ra.length) (e4 : nb = rb.length) (a1 : 1 ≤ ra.length) (b1 : 1 ≤ rb.length) (Sa : Inc L ra) (Sb : Inc L rb)
    (h : ∀ (m : List Keyed) (st' : SortSt), kindOf st' = κ → failedOf st' = none → (pendingOf st').toList = ps1 ++ (sa, na + nb, pw) :: ps2 → (arrOf st').toList = P ++ m ++ S → m.Perm (ra ++ rb) → Inc L m → Q true st') : wpS (model prog w) A E s (mergeAt' i) Q st := by
  refine wpS_bind (wpS_get ?_)
  have p1 : (pendingOf st)[i]? = some (sa, na, pw) := by rw [← Array.getElem?_toList, hp, hi, List.getElem?_append_right (Nat.le_refl _), Nat.sub_self]; rfl
  have p2 : (pendingOf st)[i + 1]? = some (sb, nb, pz) := by rw [← Array.getElem?_toList, hp, hi, List.getElem?_append_right (by omega), Nat.add_sub_cancel_left]; rfl
  have hl : (arrOf st).size = P.length + ra.length + rb.length + S.length := by rw [← Array.length_toList, ha]; simp [Nat.add_assoc]
  have gA : ∀ j, j < ra.length → (arrOf st)[sa + j]? = ra[j]? := fun j hj => by
    rw [← Array.getElem?_toList, ha, List.append_assoc, List.append_assoc, e1, List.getElem?_append_right (by omega), Nat.add_sub_cancel_left, List.getElem?_append_left hj]
  have gB : ∀ j, j < rb.length → (arrOf st)[sb + j]? = rb[j]? := fun j hj => by
    rw [← Array.getElem?_toList, ha, List.append_assoc, e3, List.getElem?_append_right (by rw [List.length_append]; omega), List.length_append, Nat.add_sub_cancel_left, List.getElem?_append_left hj]
  have leA : sa + na ≤ (arrOf st).size := by omega
  have leB : sb + nb ≤ (arrOf st).size := by omega
  have uA : ∀ x ∈ ra, U x := fun x hx => ua x (by rw [ha]; simp [hx])
  have uB : ∀ x ∈ rb, U x := fun x hx => ua x (by rw [ha]; simp [hx])
  obtain ⟨y0, ey⟩ : ∃ y, rb[0]? = some y := ⟨_, List.getElem?_eq_getElem (by omega)⟩
  obtain ⟨xl, ex⟩ : ∃ x, ra[ra.length - 1]? = some x := ⟨_, List.getElem?_eq_getElem (by omega)⟩
  dsimp only
  rw [p1, p2]
  dsimp only
  refine wpS_bind (r_set ?_)
  refine wpS_bind (r_elem (x := y0) (by rw [← ey, ← gB 0 (by omega)]; rfl) ?_)
  have incA : ∀ i j x y, i ≤ j → j < na → (arrOf st)[sa + i]? = some x → (arrOf st)[sa + j]? = some y → Le L x y := fun i j x y hij hj hx hy => by
    rw [gA i (by omega)] at hx
    rw [gA j (by omega)] at hy
    exact Sa.le' O hx hy hij
  have incB : ∀ i j x y, i ≤ j → j < nb → (arrOf st)[sb + i]? = some x → (arrOf st)[sb + j]? = some y → Le L x y := fun i j x y hij hj hx hy => by
    rw [gB i (by omega)] at hx
    rw [gB j (by omega)] at hy
    exact Sb.le' O hx hy hij
  refine wpS_bind (r_right O H hk (uB y0 (List.mem_of_getElem? ey)) ua leA incA (by omega) fun k k1 k2 k3 => ?_)
  have c1 : ∀ x ∈ ra.take k, Le L x y0 := fun x hx => by
    obtain ⟨j, hj, ej⟩ := mem_take hx
    exact k2 j x hj (by rw [gA j (by omega)]; exact ej)
  have d1 : ∀ x ∈ ra.drop k, Le L y0 x := fun x hx => by
    obtain ⟨j, hj, ej⟩ := mem_drop hx
    have := (List.getElem?_eq_some_iff.mp ej).1
    exact Le.of_lt O (k3 j x hj (by omega) (by rw [gA j (by omega)]; exact ej))
  dsimp only
  have pj := pend_join (z := (sa, na + nb, pw)) hp hi
  by_cases c0 : (na - k == 0) = true
  · rw [if_pos c0]
    have c0' : na - k = 0 := by simpa using c0
    have ek : ra.take k = ra := List.take_of_length_le (by omega)
    obtain ⟨q1, q2⟩ := join_inc O (mg := rb) (k := k) (n := rb.length) Sa Sb ey ex c1 (fun y hy => by rw [List.drop_eq_nil_of_le (Nat.le_refl _)] at hy; cases hy) (by rw [List.drop_eq_nil_of_le (i := k) (by omega), List.take_of_length_le (Nat.le_refl _)]; exact List.Perm.refl _) Sb
    rw [ek, List.drop_eq_nil_of_le (Nat.le_refl _), List.append_nil] at q1 q2
    exact wpS_pure (h (ra ++ rb) _ hk hf pj (by show (arrOf st).toList = _; rw [ha]; simp only [List.append_assoc]) q1 q2)
  rw [if_neg c0]
  have c0' : na - k ≠ 0 := by simpa using c0
  refine wpS_bind (r_elem (x := xl) (by rw [← ex, ← gA _ (by omega)]; congr 1; omega) ?_)
  refine wpS_bind (r_left O H hk (uA xl (List.mem_of_getElem? ex)) ua leB incB (by omega) fun n n1 n2 n3 => ?_)
  have c2 : ∀ y ∈ rb.drop n, Le L xl y := fun y hy => by
    obtain ⟨j, hj, ej⟩ := mem_drop hy
    have := (List.getElem?_eq_some_iff.mp ej).1
    exact n3 j y hj (by omega) (by rw [gB j (by omega)]; exact ej)
  have d2 : ∀ y ∈ rb.take n, Le L y xl := fun y hy => by
    obtain ⟨j, hj, ej⟩ := mem_take hy
    exact Le.of_lt O (n2 j y hj (by rw [gB j (by omega)]; exact ej))
  dsimp only
  by_cases c3 : (n == 0) = true
  · rw [if_pos c3]
    have c3' : n = 0 := by simpa using c3
    subst c3'
    obtain ⟨q1, q2⟩ := join_inc O (mg := ra.drop k) (k := k) (n := 0) Sa Sb ey ex c1 c2 (by simp) (List.Pairwise.sublist (List.drop_sublist ..) Sa)
    rw [List.take_append_drop, List.drop_zero] at q1 q2
    exact wpS_pure (h (ra ++ rb) _ hk hf pj (by show (arrOf st).toList = _; rw [ha]; simp only [List.append_assoc]) q1 q2)
  rw [if_neg c3]
  have c3' : n ≠ 0 := by simpa using c3
  have xA : ((arrOf st).extract (sa + k) sb).toList = ra.drop k := by
    rw [ex_toList, ha, List.append_assoc, List.append_assoc, e1, ← List.drop_drop, List.drop_left, List.drop_append_of_le_length (by omega), e3, show P.length + ra.length - (P.length + k) = (ra.drop k).length by rw [List.length_drop]; omega, List.take_left]
  have xB : ((arrOf st).extract sb (sb + n)).toList = rb.take n := by
    rw [ex_toList, ha, List.append_assoc, e3, show P.length + ra.length = (P ++ ra).length by rw [List.length_append], List.drop_left, Nat.add_sub_cancel_left, List.take_append_of_le_length (by omega)]
  have zA : ((arrOf st).extract (sa + k) sb).size = ra.length - k := by rw [← Array.length_toList, xA, List.length_drop]
  have zB : ((arrOf st).extract sb (sb + n)).size = n := by rw [← Array.length_toList, xB, List.length_take]; omega
  have key : ∀ (mg : Array Keyed) (st' : SortSt), Kp (SortSt.mk' (kindOf st) (arrOf st) (((pendingOf st).setIfInBounds i (sa, na + nb, pw)).eraseIdxIfInBounds (i + 1)) (gallopOf st) (failedOf st)) st' →
      Fin L ((arrOf st).extract (sa + k) sb) ((arrOf st).extract sb (sb + n)) mg →
      Q true (SortSt.mk' (kindOf st') (List.foldl (fun a (x : Keyed × Nat) => a.setIfInBounds (sa + k + x.2) x.1) (arrOf st') mg.toList.zipIdx) (pendingOf st') (gallopOf st') (failedOf st')) := fun mg st' K F => by
    obtain ⟨f1, f2⟩ := F
    rw [xA, xB] at f1
    obtain ⟨q1, q2⟩ := join_inc O (mg := mg.toList) (k := k) (n := n) Sa Sb ey ex c1 c2 f1 f2
    have lm : mg.toList.length = ra.length - k + n := by rw [f1.length_eq, List.length_append, List.length_drop, List.length_take]; omega
    refine h _ _ (K.kind.trans hk) (K.failed.trans hf) (by show (pendingOf st').toList = _; rw [K.pend]; exact pj) ?_ q1 q2
    show (List.foldl (fun a (x : Keyed × Nat) => a.setIfInBounds (sa + k + x.2) x.1) (arrOf st') mg.toList.zipIdx).toList = _
    rw [K.arr]
    show (List.foldl (fun a (x : Keyed × Nat) => a.setIfInBounds (sa + k + x.2) x.1) (arrOf st) (mg.toList.zipIdx 0)).toList = _
    rw [put_list mg.toList 0 (sa + k) (arrOf st) (by omega), Nat.add_zero, lm, ha]
    have t1 : (P ++ ra ++ rb ++ S).take (sa + k) = P ++ ra.take k := by
      rw [List.append_assoc, List.append_assoc, e1, List.take_length_add_append, List.take_append_of_le_length (by omega)]
    have t2 : (P ++ ra ++ rb ++ S).drop (sa + k + (ra.length - k + n)) = rb.drop n ++ S := by
      rw [show sa + k + (ra.length - k + n) = (P ++ ra).length + n by rw [List.length_append]; omega, List.append_assoc, ← List.drop_drop, List.drop_left, List.drop_append_of_le_length (by omega)]
    rw [t1, t2]
    simp only [List.append_assoc]
  have h0 : ∀ x ∈ ((arrOf st).extract (sa + k) sb).toList, ∀ y, ((arrOf st).extract sb (sb + n))[0]? = some y → Le L y x := fun x hx y hy => by
    rw [xA] at hx
    rw [← get_l, xB, List.getElem?_take, if_pos (by omega), ey] at hy
    cases hy
    exact d1 x hx
  have h1 : ∀ y ∈ ((arrOf st).extract sb (sb + n)).toList, ∀ x, ((arrOf st).extract (sa + k) sb)[((arrOf st).extract (sa + k) sb).size - 1]? = some x → Le L y x := fun y hy x hx => by
    rw [xB] at hy
    rw [← get_l, xA, zA, List.getElem?_drop, show k + (ra.length - k - 1) = ra.length - 1 by omega, ex] at hx
    cases hx
    exact d2 y hy
  have uX : ∀ x ∈ ((arrOf st).extract (sa + k) sb).toList, U x := fun x hx => by rw [xA] at hx; exact uA x (List.mem_of_mem_drop hx)
  have uY : ∀ x ∈ ((arrOf st).extract sb (sb + n)).toList, U x := fun x hx => by rw [xB] at hx; exact uB x (List.mem_of_mem_take hx)
  have sX : Inc L ((arrOf st).extract (sa + k) sb).toList := by rw [xA]; exact List.Pairwise.sublist (List.drop_sublist ..) Sa
  have sY : Inc L ((arrOf st).extract sb (sb + n)).toList := by rw [xB]; exact List.Pairwise.sublist (List.take_sublist ..) Sb
  have s1 : 1 ≤ ((arrOf st).extract (sa + k) sb).size := by omega
  have s2 : 1 ≤ ((arrOf st).extract sb (sb + n)).size := by omega
  by_cases c4 : na - k ≤ n
  · rw [if_pos c4]
    refine wpS_bind (r_mLo O H hk uX uY sX sY s1 s2 h0 h1 fun out st' K F => ?_)
    refine wpS_bind (wpS_modify (wpS_bind (wpS_get ?_)))
    have e : (failedOf st').isNone = true := by rw [show failedOf st' = none from K.failed.trans hf]; rfl
    refine wpS_pure (?_ : Q (failedOf st').isNone _)
    rw [e]
    exact key out st' K F
  · rw [if_neg c4]
    refine wpS_bind (r_mHi O H hk uX uY sX sY s1 s2 h0 h1 fun out st' K F => ?_)
    refine wpS_bind (wpS_modify (wpS_bind (wpS_get ?_)))
    have e : (failedOf st').isNone = true := by rw [show failedOf st' = none from K.failed.trans hf]; rfl
    refine wpS_pure (?_ : Q (failedOf st').isNone _)
    rw [e]
    exact key out st' K F
end
end SR
end L2

namespace L2
open PySem PySem.W PyProof.Rows
namespace SR
/-! ### a run found and a run made longer, from any place on -/
section
variable {L : Keyed → Keyed → Bool} {xs : Array Keyed} {lo n q : Nat}
noncomputable def at_ (xs : Array Keyed) (k : Nat) : Keyed := (xs[k]?).getD (Value.none, Value.none)
theorem at_some {k : Nat} (h : k < xs.size) : xs[k]? = some (at_ xs k) := by
  unfold at_
  rw [Array.getElem?_eq_getElem h]
  rfl
theorem at_mir {i j : Nat} (hj : j ≤ xs.size) (k : Nat) : at_ (mirror xs i j ((j - i) / 2)) k = if i ≤ k ∧ k < j then at_ xs (i + j - 1 - k) else at_ xs k := by
  unfold at_
  rw [getElem?_mirror_all hj]
  split <;> rfl
theorem at_bub {src d : Nat} (hs : src < xs.size) (hd : d ≤ src) (k : Nat) : at_ (bubble xs src d) k = if k = src - d then at_ xs src else if src - d < k ∧ k ≤ src then at_ xs (k - 1) else at_ xs k := by
  unfold at_
  rw [getElem?_bubble hs d hd]
  split
  · rfl
  · split <;> rfl
noncomputable def Up (L : Keyed → Keyed → Bool) (xs : Array Keyed) (lo n : Nat) : Prop := ∀ i j, i < j → j < n → Le L (at_ xs (lo + i)) (at_ xs (lo + j))
noncomputable def Dn (L : Keyed → Keyed → Bool) (xs : Array Keyed) (lo n : Nat) : Prop := ∀ i j, i < j → j < n → Le L (at_ xs (lo + j)) (at_ xs (lo + i))
theorem Up.more (O : TO L) (h : Up L xs lo n) (h1 : 1 ≤ n) (g : Le L (at_ xs (lo + n - 1)) (at_ xs (lo + n))) : Up L xs lo (n + 1) := fun i j hij hj => by
  by_cases c : j < n
  · exact h i j hij c
  · have e : j = n := by omega
    subst e
    by_cases d : i = j - 1
    · rw [d, show lo + (j - 1) = lo + j - 1 by omega]; exact g
    · have := h i (j - 1) (by omega) (by omega)
      rw [show lo + (j - 1) = lo + j - 1 by omega] at this
      exact this.trans O g
theorem Dn.more (O : TO L) (h : Dn L xs lo n) (h1 : 1 ≤ n) (g : Le L (at_ xs (lo + n)) (at_ xs (lo + n - 1))) : Dn L xs lo (n + 1) := fun i j hij hj => by
  by_cases c : j < n
  · exact h i j hij c
  · have e : j = n := by omega
    subst e
    by_cases d : i = j - 1
    · rw [d, show lo + (j - 1) = lo + j - 1 by omega]; exact g
    · have := h i (j - 1) (by omega) (by omega)
      rw [show lo + (j - 1) = lo + j - 1 by omega] at this
      exact g.trans O this
structure DI (L : Keyed → Keyed → Bool) (xs : Array Keyed) (lo n q : Nat) : Prop where
  q1 : q + 1 ≤ n
  dn : Dn L xs lo n
  eq : ∀ i j, n - (q + 1) ≤ i → i < n → n - (q + 1) ≤ j → j < n → Le L (at_ xs (lo + i)) (at_ xs (lo + j))
theorem DI.one (O : TO L) (h1 : 1 ≤ n) (h : Dn L xs lo n) : DI L xs lo n 0 := ⟨by omega, h, fun i j a b c d => by
  have : i = j := by omega
  rw [this]; exact irr O _⟩
/-- alike ones turned about: still falling -/
theorem DI.rev (O : TO L) (D : DI L xs lo n q) (hs : lo + n ≤ xs.size) : Dn L (mirror xs (lo + n - (q + 1)) (lo + n) ((lo + n - (lo + n - (q + 1))) / 2)) lo n ∧ Le L (at_ xs (lo + n - 1)) (at_ (mirror xs (lo + n - (q + 1)) (lo + n) ((lo + n - (lo + n - (q + 1))) / 2)) (lo + n - 1)) := by
  have q1 := D.q1
  have inn : ∀ i, n - (q + 1) ≤ i → i < n → ∃ i', n - (q + 1) ≤ i' ∧ i' < n ∧ at_ (mirror xs (lo + n - (q + 1)) (lo + n) ((lo + n - (lo + n - (q + 1))) / 2)) (lo + i) = at_ xs (lo + i') := fun i h1 h2 => ⟨n - (q + 1) + n - 1 - i, by omega, by omega, by rw [at_mir hs, if_pos (by omega)]; congr 1; omega⟩
  have out : ∀ i, i < n - (q + 1) → at_ (mirror xs (lo + n - (q + 1)) (lo + n) ((lo + n - (lo + n - (q + 1))) / 2)) (lo + i) = at_ xs (lo + i) := fun i h => by rw [at_mir hs, if_neg (by omega)]
  refine ⟨fun i j hij hj => ?_, ?_⟩
  · by_cases cj : j < n - (q + 1)
    · rw [out i (by omega), out j cj]
      exact D.dn i j hij hj
    · obtain ⟨j', j1, j2, ej⟩ := inn j (by omega) hj
      rw [ej]
      by_cases ci : i < n - (q + 1)
      · rw [out i ci]
        exact D.dn i j' (by omega) j2
      · obtain ⟨i', i1, i2, ei⟩ := inn i (by omega) (by omega)
        rw [ei]
        exact D.eq j' i' j1 j2 i1 i2
  · obtain ⟨i', i1, i2, ei⟩ := inn (n - 1) (by omega) (by omega)
    rw [show lo + n - 1 = lo + (n - 1) by omega, ei]
    exact D.eq (n - 1) i' (by omega) (by omega) i1 i2
theorem Dn.turn (D : Dn L xs lo n) (hs : lo + n ≤ xs.size) : Up L (mirror xs lo (lo + n) ((lo + n - lo) / 2)) lo n := fun i j hij hj => by
  rw [at_mir hs, at_mir hs, if_pos (by omega), if_pos (by omega)]
  have := D (n - 1 - j) (n - 1 - i) (by omega) (by omega)
  rw [show lo + (n - 1 - j) = lo + (lo + n) - 1 - (lo + j) by omega, show lo + (n - 1 - i) = lo + (lo + n) - 1 - (lo + i) by omega] at this
  exact this
theorem Up.same (O : TO L) (h : Up L xs lo n) (h1 : 1 ≤ n) (g : Le L (at_ xs (lo + n - 1)) (at_ xs lo)) : ∀ i j, i < n → j < n → Le L (at_ xs (lo + i)) (at_ xs (lo + j)) := fun i j hi hj => by
  have top : Le L (at_ xs (lo + i)) (at_ xs (lo + n - 1)) := by
    by_cases c : i = n - 1
    · rw [c, show lo + (n - 1) = lo + n - 1 by omega]; exact irr O _
    · have := h i (n - 1) (by omega) (by omega)
      rwa [show lo + (n - 1) = lo + n - 1 by omega] at this
  have low : Le L (at_ xs lo) (at_ xs (lo + j)) := by
    by_cases c : j = 0
    · rw [c]; exact irr O _
    · exact h 0 j (by omega) hj
  exact (top.trans O g).trans O low
theorem Dn.of_same (hs : lo + n ≤ xs.size) (h : ∀ i j, i < n → j < n → Le L (at_ xs (lo + i)) (at_ xs (lo + j))) : (∀ i j, i < n → j < n → Le L (at_ xs (lo + j)) (at_ (mirror xs lo (lo + n) ((lo + n - lo) / 2)) (lo + i))) ∧ Dn L (mirror xs lo (lo + n) ((lo + n - lo) / 2)) lo n := by
  have e : ∀ i, i < n → ∃ i', i' < n ∧ at_ (mirror xs lo (lo + n) ((lo + n - lo) / 2)) (lo + i) = at_ xs (lo + i') := fun i hi => ⟨n - 1 - i, by omega, by rw [at_mir hs, if_pos (by omega)]; congr 1; omega⟩
  refine ⟨fun i j hi hj => ?_, fun i j hij hj => ?_⟩
  · obtain ⟨i', h1, e1⟩ := e i hi
    rw [e1]; exact h j i' hj h1
  · obtain ⟨i', h1, e1⟩ := e i (by omega)
    obtain ⟨j', h2, e2⟩ := e j hj
    rw [e1, e2]; exact h j' i' h2 h1
end
section
variable {prog : Program} {w : World} {A : Around} {E : Value → Shared → Prop} {s : Shared} {κ : SortKind} {U : Keyed → Prop} {L : Keyed → Keyed → Bool} {lo : Nat} {st0 st : SortSt}
structure Sg (κ : SortKind) (lo : Nat) (st0 st : SortSt) : Prop where
  kind : kindOf st = κ
  failed : failedOf st = none
  pend : pendingOf st = pendingOf st0
  perm : (arrOf st).Perm (arrOf st0)
  pre : ∀ k, k < lo → (arrOf st)[k]? = (arrOf st0)[k]?
theorem Sg.size (G : Sg κ lo st0 st) : (arrOf st).size = (arrOf st0).size := G.perm.size_eq
theorem Sg.mir (G : Sg κ lo st0 st) {i j : Nat} (hi : lo ≤ i) (hj : j ≤ (arrOf st).size) : Sg κ lo st0 (setArr st (mirror (arrOf st) i j ((j - i) / 2))) :=
  ⟨G.kind, G.failed, G.pend, (mirror_perm ..).trans G.perm, fun k hk => by
    show (mirror (arrOf st) i j ((j - i) / 2))[k]? = _
    rw [getElem?_mirror_all hj, if_neg (by omega)]
    exact G.pre k hk⟩
theorem r_rev {i j : Nat} {Q : Unit → SortSt → Prop} (h : Q () (setArr st (mirror (arrOf st) i j ((j - i) / 2)))) : wpS (model prog w) A E s (reverseSlice' i j) Q st := by
  rw [reverseSlice'_eq]
  exact wpS_modify h
theorem r_move {i j : Nat} {Q : Unit → SortSt → Prop} (h : Q () (setArr st (bubble (arrOf st) i (i - j)))) : wpS (model prog w) A E s (moveDown' i j) Q st := by
  rw [moveDown'_eq]
  exact wpS_modify h
theorem Sg.u (G : Sg κ lo st0 st) (u0 : ∀ x ∈ (arrOf st0).toList, U x) {k : Nat} (h : k < (arrOf st).size) : U (at_ (arrOf st) k) := by
  have := at_some h
  exact u0 _ ((Array.perm_iff_toList_perm.mp G.perm).mem_iff.mp (by rw [← Array.getElem?_toList] at this; exact List.mem_of_getElem? this))
theorem r_ltAt (H : Asked prog w A s κ U L) (u0 : ∀ x ∈ (arrOf st0).toList, U x) (G : Sg κ lo st0 st) {i j : Nat} {Q : Option Bool → SortSt → Prop} (hi : i < (arrOf st).size) (hj : j < (arrOf st).size) (h : Q (some (L (at_ (arrOf st) i) (at_ (arrOf st) j))) st) : wpS (model prog w) A E s (ltAt' i j) Q st := by
  rw [ltAt'_eq]
  refine wpS_bind (wpS_get (wpS_bind (r_elem (at_some hi) (wpS_bind (r_elem (at_some hj) ?_)))))
  exact r_lt H G.kind (G.u u0 hi) (G.u u0 hj) h
theorem r_count (O : TO L) (H : Asked prog w A s κ U L) (u0 : ∀ x ∈ (arrOf st0).toList, U x) {nrem : Nat} {Q : Option Nat → SortSt → Prop} (G : Sg κ lo st0 st) (h1 : 1 ≤ nrem) (hn : lo + nrem = (arrOf st0).size)
    (h : ∀ n st', 1 ≤ n → n ≤ nrem → Sg κ lo st0 st' → Up L (arrOf st') lo n → Q (some n) st') : wpS (model prog w) A E s (countRun' lo nrem) Q st := by
  refine wpS_bind (wpS_mono (wpS_forRange (I := fun i c st' => c = (none, i) ∧ st' = st ∧ Up L (arrOf st) lo i)
    (Q := fun c st' => st' = st ∧ ∃ n, c = (none, n) ∧ 1 ≤ n ∧ n ≤ nrem ∧ Up L (arrOf st) lo n ∧ (n = nrem ∨ L (at_ (arrOf st) (lo + n)) (at_ (arrOf st) (lo + n - 1)) = true)) ?_ ?_ ⟨rfl, rfl, fun i j a b => by omega⟩) ?_)
  · rintro i c st' h1' h2' ⟨rfl, rfl, up⟩
    refine wpS_bind (r_ltAt H u0 G (by rw [G.size]; omega) (by rw [G.size]; omega) ?_)
    cases c : L (at_ (arrOf st') (lo + i)) (at_ (arrOf st') (lo + i - 1)) with
    | true => exact wpS_pure ⟨rfl, i, rfl, h1', by omega, up, .inr c⟩
    | false => exact wpS_pure ⟨rfl, rfl, up.more O h1' c⟩
  · rintro c st' ⟨rfl, rfl, up⟩
    rw [Nat.max_eq_right h1] at up ⊢
    exact ⟨rfl, nrem, rfl, h1, Nat.le_refl _, up, .inl rfl⟩
  · rintro c st' ⟨rfl, n, rfl, n1, n2, up, n3⟩
    dsimp only
    by_cases c0 : (n == nrem) = true
    · rw [if_pos c0]
      exact wpS_pure (h n st' n1 n2 G up)
    rw [if_neg c0]
    have c0' : n ≠ nrem := by simpa using c0
    have sm : L (at_ (arrOf st') (lo + n)) (at_ (arrOf st') (lo + n - 1)) = true := n3.resolve_left c0'
    have z0 := G.size
    by_cases c1 : n > 1
    case' pos =>
      rw [if_pos c1]
      refine wpS_bind (r_ltAt H u0 G (by omega) (by omega) ?_)
      dsimp only
      by_cases c2 : L (at_ (arrOf st') lo) (at_ (arrOf st') (lo + n - 1)) = true
      · rw [if_pos c2]
        exact wpS_pure (h n st' n1 n2 G up)
      rw [if_neg c2]
      refine wpS_bind (r_rev ?_)
      have G2 := G.mir (i := lo) (j := lo + n) (Nat.le_refl _) (by omega)
      have sa := up.same O n1 (Bool.eq_false_iff.mpr c2)
      have D : DI L (arrOf (setArr st' (mirror (arrOf st') lo (lo + n) ((lo + n - lo) / 2)))) lo (n + 1) 0 := by
        obtain ⟨s1, s2⟩ := Dn.of_same (xs := arrOf st') (lo := lo) (n := n) (by omega) sa
        refine DI.one O (by omega) (s2.more O n1 ?_)
        have e1 : at_ (mirror (arrOf st') lo (lo + n) ((lo + n - lo) / 2)) (lo + n) = at_ (arrOf st') (lo + n) := by rw [at_mir (by omega), if_neg (by omega)]
        rw [e1]
        have := s1 (n - 1) (n - 1) (by omega) (by omega)
        rw [show lo + (n - 1) = lo + n - 1 by omega] at this
        exact (Le.of_lt O sm).trans O this
      clear sa c2 sm up G n3 c0 c1
      generalize setArr st' (mirror (arrOf st') lo (lo + n) ((lo + n - lo) / 2)) = st2 at G2 D ⊢
    case' neg =>
      rw [if_neg c1]
      have G2 := G
      have D : DI L (arrOf st') lo (n + 1) 0 := DI.one O (by omega) (Dn.more O (fun i j a b => by omega) n1 (Le.of_lt O sm))
      clear sm up G n3 c0 c1
      generalize st' = st2 at G2 D ⊢
    all_goals
      refine wpS_bind (r_rule ?_)
      refine wpS_bind (wpS_mono (wpS_forRange (I := fun i c st3 => ∃ q, c = (none, i, q) ∧ Sg κ lo st0 st3 ∧ DI L (arrOf st3) lo i q)
        (Q := fun c st3 => ∃ m q, c = (none, m, q) ∧ Sg κ lo st0 st3 ∧ DI L (arrOf st3) lo m q ∧ m ≤ nrem) ?step ?fin ⟨0, rfl, G2, D⟩) ?post)
      case fin =>
        rintro c st3 ⟨q, rfl, G3, D3⟩
        rw [Nat.max_eq_right (by omega)] at D3 ⊢
        exact ⟨nrem, q, rfl, G3, D3, Nat.le_refl _⟩
      case step =>
        rintro i c st3 i1 i2 ⟨q, rfl, G3, D3⟩
        dsimp only
        have z3 := G3.size
        have q1 := D3.q1
        refine wpS_bind (r_ltAt H u0 G3 (by omega) (by omega) ?_)
        cases c3 : L (at_ (arrOf st3) (lo + i)) (at_ (arrOf st3) (lo + i - 1)) with
        | true =>
          dsimp only
          rw [if_pos rfl]
          by_cases c4 : q > 0
          · rw [if_pos c4]
            refine wpS_bind (r_rev (wpS_pure ⟨0, rfl, G3.mir (by omega) (by omega), DI.one O (by omega) ?_⟩))
            obtain ⟨s1, s2⟩ := D3.rev O (by omega)
            refine s1.more O (by omega) ?_
            have e1 : at_ (mirror (arrOf st3) (lo + i - (q + 1)) (lo + i) ((lo + i - (lo + i - (q + 1))) / 2)) (lo + i) = at_ (arrOf st3) (lo + i) := by rw [at_mir (by omega), if_neg (by omega)]
            rw [e1]
            exact (Le.of_lt O c3).trans O s2
          · rw [if_neg c4]
            exact wpS_pure ⟨0, rfl, G3, DI.one O (by omega) (D3.dn.more O (by omega) (Le.of_lt O c3))⟩
        | false =>
          dsimp only
          rw [if_neg Bool.false_ne_true]
          refine wpS_bind (r_ltAt H u0 G3 (by omega) (by omega) ?_)
          cases c4 : L (at_ (arrOf st3) (lo + i - 1)) (at_ (arrOf st3) (lo + i)) with
          | true => exact wpS_pure ⟨i, q, rfl, G3, D3, by omega⟩
          | false =>
            refine wpS_pure ⟨q + 1, rfl, G3, by omega, D3.dn.more O (by omega) c4, fun a b a1 a2 b1 b2 => ?_⟩
            have lst : ∀ a, i - (q + 1) ≤ a → a < i → Le L (at_ (arrOf st3) (lo + a)) (at_ (arrOf st3) (lo + i)) ∧ Le L (at_ (arrOf st3) (lo + i)) (at_ (arrOf st3) (lo + a)) := fun a x1 x2 => by
              have e1 := D3.eq a (i - 1) x1 x2 (by omega) (by omega)
              have e2 := D3.eq (i - 1) a (by omega) (by omega) x1 x2
              rw [show lo + (i - 1) = lo + i - 1 by omega] at e1 e2
              exact ⟨e1.trans O c3, Le.trans O c4 e2⟩
            by_cases ca : a = i
            · by_cases cb : b = i
              · rw [ca, cb]; exact irr O _
              · rw [ca]; exact (lst b (by omega) (by omega)).2
            · by_cases cb : b = i
              · rw [cb]; exact (lst a (by omega) (by omega)).1
              · exact D3.eq a b (by omega) (by omega) (by omega) (by omega)
      case post =>
        rintro c st3 ⟨m, q, rfl, G3, D3, m1⟩
        dsimp only
        have z3 := G3.size
        have q1 := D3.q1
        by_cases c4 : q > 0
        case' pos =>
          rw [if_pos c4]
          refine wpS_bind (r_rev ?_)
          have G4 := G3.mir (i := lo + m - (q + 1)) (j := lo + m) (by omega) (by omega)
          have D4 : Dn L (arrOf (setArr st3 (mirror (arrOf st3) (lo + m - (q + 1)) (lo + m) ((lo + m - (lo + m - (q + 1))) / 2)))) lo m := (D3.rev O (by omega)).1
          clear D3 G3 z3
          generalize setArr st3 (mirror (arrOf st3) (lo + m - (q + 1)) (lo + m) ((lo + m - (lo + m - (q + 1))) / 2)) = st4 at G4 D4 ⊢
        case' neg =>
          rw [if_neg c4]
          have G4 := G3
          have D4 := D3.dn
          clear D3 G3 z3
          generalize st3 = st4 at G4 D4 ⊢
        all_goals
          have z4 := G4.size
          refine wpS_bind (r_rev ?_)
          have G5 := G4.mir (i := lo) (j := lo + m) (Nat.le_refl _) (by omega)
          have U5 : Up L (arrOf (setArr st4 (mirror (arrOf st4) lo (lo + m) ((lo + m - lo) / 2)))) lo m := D4.turn (by omega)
          clear D4 G4 z4
          generalize setArr st4 (mirror (arrOf st4) lo (lo + m) ((lo + m - lo) / 2)) = st5 at G5 U5 ⊢
          have z5 := G5.size
          refine wpS_bind (wpS_mono (wpS_forRange (I := fun i c st' => c = (none, i) ∧ st' = st5 ∧ Up L (arrOf st5) lo i)
            (Q := fun c st' => st' = st5 ∧ ∃ n, c = (none, n) ∧ 1 ≤ n ∧ n ≤ nrem ∧ Up L (arrOf st5) lo n) ?_ ?_ ⟨rfl, rfl, U5⟩) ?_)
          · rintro i c st' h1' h2' ⟨rfl, rfl, up⟩
            refine wpS_bind (r_ltAt H u0 G5 (by dsimp only; omega) (by dsimp only; omega) ?_)
            cases c : L (at_ (arrOf st') (lo + i)) (at_ (arrOf st') (lo + i - 1)) with
            | true => exact wpS_pure ⟨rfl, i, rfl, by omega, by omega, up⟩
            | false => exact wpS_pure ⟨rfl, rfl, up.more O (by omega) c⟩
          · rintro c st' ⟨rfl, rfl, up⟩
            rw [Nat.max_eq_right m1] at up ⊢
            exact ⟨rfl, nrem, rfl, h1, Nat.le_refl _, up⟩
          · rintro c st' ⟨rfl, n, rfl, n1, n2, up⟩
            exact wpS_pure (h n st' n1 n2 G5 up)
theorem r_bin (O : TO L) (H : Asked prog w A s κ U L) (u0 : ∀ x ∈ (arrOf st0).toList, U x) {n ok : Nat} {Q : Bool → SortSt → Prop} (G : Sg κ lo st0 st) (h1 : 1 ≤ ok) (h2 : ok ≤ n) (hn : lo + n ≤ (arrOf st0).size) (up : Up L (arrOf st) lo ok)
    (h : ∀ st', Sg κ lo st0 st' → Up L (arrOf st') lo n → Q true st') : wpS (model prog w) A E s (binarySort' lo n ok) Q st := by
  refine wpS_bind (wpS_mono (wpS_forRange (I := fun k c st' => c = (none, ()) ∧ Sg κ lo st0 st' ∧ Up L (arrOf st') lo k)
    (Q := fun c st' => c = (none, ()) ∧ Sg κ lo st0 st' ∧ Up L (arrOf st') lo n) ?_ ?_ ⟨rfl, G, by rw [Nat.max_eq_left h1]; exact up⟩) ?_)
  · rintro k c st' k1 k2 ⟨rfl, G1, U1⟩
    have z1 := G1.size
    refine wpS_bind (wpS_mono (wpS_forRange (I := fun i c st2 => ∃ l r, c = (none, l, r) ∧ st2 = st' ∧ l ≤ r ∧ r ≤ k ∧ r - l + i ≤ k ∧ (∀ i, i < l → Le L (at_ (arrOf st') (lo + i)) (at_ (arrOf st') (lo + k))) ∧ ∀ i, r ≤ i → i < k → Le L (at_ (arrOf st') (lo + k)) (at_ (arrOf st') (lo + i)))
      (Q := fun c st2 => ∃ l, c = (none, l, l) ∧ st2 = st' ∧ l ≤ k ∧ (∀ i, i < l → Le L (at_ (arrOf st') (lo + i)) (at_ (arrOf st') (lo + k))) ∧ ∀ i, l ≤ i → i < k → Le L (at_ (arrOf st') (lo + k)) (at_ (arrOf st') (lo + i))) ?_ ?_ ⟨0, k, rfl, rfl, by omega, by omega, by omega, fun i a => by omega, fun i a b => by omega⟩) ?_)
    · rintro i c st2 _ i2 ⟨l, r, rfl, rfl, a1, a2, a3, a4, a5⟩
      dsimp only
      by_cases c0 : l ≥ r
      · rw [if_pos c0]
        have : l = r := by omega
        subst this
        exact wpS_pure ⟨l, rfl, rfl, a2, a4, a5⟩
      · rw [if_neg c0]
        refine wpS_bind (r_ltAt H u0 G1 (by omega) (by omega) ?_)
        cases c1 : L (at_ (arrOf st2) (lo + k)) (at_ (arrOf st2) (lo + (l + r) / 2)) with
        | true =>
          refine wpS_pure ⟨l, (l + r) / 2, rfl, rfl, by omega, by omega, by omega, a4, fun i b1 b2 => ?_⟩
          by_cases e : i = (l + r) / 2
          · rw [e]; exact Le.of_lt O c1
          · exact (Le.of_lt O c1).trans O (U1 _ i (by omega) b2)
        | false =>
          refine wpS_pure ⟨(l + r) / 2 + 1, r, rfl, rfl, by omega, by omega, by omega, fun i b1 => ?_, a5⟩
          by_cases e : i = (l + r) / 2
          · rw [e]; exact c1
          · exact (U1 i ((l + r) / 2) (by omega) (by omega)).trans O c1
    · rintro c st2 ⟨l, r, rfl, rfl, a1, a2, a3, a4, a5⟩
      have : l = r := by omega
      subst this
      exact ⟨l, rfl, rfl, a2, a4, a5⟩
    · rintro c st2 ⟨l, rfl, rfl, a2, a4, a5⟩
      have hs : lo + k < (arrOf st2).size := by omega
      have ed : lo + k - (lo + k - (lo + l)) = lo + l := by omega
      refine wpS_bind (r_move (wpS_pure ⟨rfl, ⟨G1.kind, G1.failed, G1.pend, (bubble_perm ..).trans G1.perm, fun j hj => ?_⟩, fun i j hij hj => ?_⟩))
      · show (bubble (arrOf st2) (lo + k) (lo + k - (lo + l)))[j]? = _
        rw [getElem?_bubble hs _ (by omega), if_neg (by omega), if_neg (by omega)]
        exact G1.pre j hj
      · show Le L (at_ (bubble (arrOf st2) (lo + k) (lo + k - (lo + l))) (lo + i)) (at_ (bubble (arrOf st2) (lo + k) (lo + k - (lo + l))) (lo + j))
        rw [at_bub hs (by omega), at_bub hs (by omega), ed]
        by_cases b1 : j = l
        · rw [if_neg (by omega), if_neg (by omega), if_pos (by omega)]
          exact a4 i (by omega)
        · rw [if_neg (c := lo + j = lo + l) (by omega)]
          by_cases b2 : j < l
          · rw [if_neg (by omega), if_neg (by omega), if_neg (by omega)]
            exact U1 i j hij (by omega)
          · rw [if_pos (c := lo + l < lo + j ∧ lo + j ≤ lo + k) (by omega)]
            by_cases b3 : i = l
            · rw [if_pos (by omega), show lo + j - 1 = lo + (j - 1) by omega]
              exact a5 (j - 1) (by omega) (by omega)
            · rw [if_neg (by omega)]
              by_cases b4 : i < l
              · rw [if_neg (by omega), show lo + j - 1 = lo + (j - 1) by omega]
                by_cases b5 : i = j - 1
                · omega
                · exact U1 i (j - 1) (by omega) (by omega)
              · rw [if_pos (by omega), show lo + j - 1 = lo + (j - 1) by omega, show lo + i - 1 = lo + (i - 1) by omega]
                exact U1 (i - 1) (j - 1) (by omega) (by omega)
  · rintro c st' ⟨rfl, G1, U1⟩
    rw [Nat.max_eq_right (by rw [Nat.max_eq_left h1]; exact h2)] at U1
    exact ⟨rfl, G1, U1⟩
  · rintro c st' ⟨rfl, G1, U1⟩
    exact wpS_pure (h st' G1 U1)
end
end SR
end L2

namespace L2
open PySem PySem.W PyProof.Rows
namespace SR
/-! ### the runs waiting, and the whole of the sort -/
section
variable {L : Keyed → Keyed → Bool}
noncomputable def Runs (L : Keyed → Keyed → Bool) : Nat → List (Nat × Nat × Nat) → List (List Keyed) → Prop
  | _, [], [] => True
  | o, p :: ps, r :: rs => p.1 = o ∧ p.2.1 = r.length ∧ 1 ≤ r.length ∧ Inc L r ∧ Runs L (o + r.length) ps rs
  | _, _, _ => False
theorem Runs.len : ∀ {o : Nat} {ps : List (Nat × Nat × Nat)} {rs : List (List Keyed)}, Runs L o ps rs → ps.length = rs.length ∧ rs.length ≤ rs.flatten.length
  | _, [], [], _ => ⟨rfl, Nat.le_refl _⟩
  | _, p :: ps, r :: rs, h => by
    obtain ⟨_, _, h3, _, h5⟩ := h
    obtain ⟨e1, e2⟩ := h5.len
    rw [List.length_cons, List.length_cons, e1, List.flatten_cons, List.length_append]
    exact ⟨rfl, by omega⟩
  | _, [], _ :: _, h => h.elim
  | _, _ :: _, [], h => h.elim
theorem Runs.push : ∀ {o : Nat} {ps : List (Nat × Nat × Nat)} {rs : List (List Keyed)} {r : List Keyed} {z : Nat}, Runs L o ps rs → 1 ≤ r.length → Inc L r → Runs L o (ps ++ [(o + rs.flatten.length, r.length, z)]) (rs ++ [r])
  | o, [], [], r, z, _, h1, h2 => ⟨by simp, rfl, h1, h2, trivial⟩
  | o, p :: ps, q :: rs, r, z, h, h1, h2 => by
    obtain ⟨a1, a2, a3, a4, a5⟩ := h
    have := a5.push (z := z) h1 h2
    refine ⟨a1, a2, a3, a4, ?_⟩
    show Runs L (o + q.length) (ps ++ _) (rs ++ [r])
    rw [List.flatten_cons, List.length_append, ← Nat.add_assoc]
    exact this
  | _, [], _ :: _, _, _, h, _, _ => h.elim
  | _, _ :: _, [], _, _, h, _, _ => h.elim
/-- the last number of each is nobody's business -/
theorem Runs.alike : ∀ {o : Nat} {ps ps' : List (Nat × Nat × Nat)} {rs : List (List Keyed)}, Runs L o ps rs → ps'.map (fun p => (p.1, p.2.1)) = ps.map (fun p => (p.1, p.2.1)) → Runs L o ps' rs
  | _, [], [], [], _, _ => trivial
  | o, p :: ps, p' :: ps', r :: rs, h, e => by
    obtain ⟨a1, a2, a3, a4, a5⟩ := h
    rw [List.map_cons, List.map_cons] at e
    injection e with e1 e2
    injection e1 with e3 e4
    exact ⟨e3.trans a1, e4.trans a2, a3, a4, a5.alike e2⟩
  | _, p :: ps, [], _, _, e => by simp at e
  | _, [], p' :: ps', _, _, e => by simp at e
  | _, [], _, _ :: _, h, _ => h.elim
  | _, _ :: _, _, [], h, _ => h.elim
theorem Runs.cut : ∀ {i o : Nat} {ps : List (Nat × Nat × Nat)} {rs : List (List Keyed)}, Runs L o ps rs → i + 1 < ps.length → ∃ ps1 u v ps2 rs1 ra rb rs2, ps = ps1 ++ u :: v :: ps2 ∧ i = ps1.length ∧ rs = rs1 ++ ra :: rb :: rs2 ∧ u.1 = o + rs1.flatten.length ∧ u.2.1 = ra.length ∧ v.1 = o + rs1.flatten.length + ra.length ∧ v.2.1 = rb.length ∧ 1 ≤ ra.length ∧ 1 ≤ rb.length ∧ Inc L ra ∧ Inc L rb ∧
    ∀ m : List Keyed, m.length = ra.length + rb.length → Inc L m → Runs L o (ps1 ++ (u.1, u.2.1 + v.2.1, u.2.2) :: ps2) (rs1 ++ m :: rs2)
  | 0, o, u :: v :: ps, ra :: rb :: rs, h, _ => by
    obtain ⟨a1, a2, a3, a4, b1, b2, b3, b4, b5⟩ := h
    refine ⟨[], u, v, ps, [], ra, rb, rs, rfl, rfl, rfl, by simpa using a1, a2, by simpa using b1, b2, a3, b3, a4, b4, fun m e hm => ⟨a1, by rw [e, a2, b2], by omega, hm, ?_⟩⟩
    rw [e, ← Nat.add_assoc]
    exact b5
  | i + 1, o, p :: ps, r :: rs, h, hi => by
    obtain ⟨a1, a2, a3, a4, a5⟩ := h
    obtain ⟨ps1, u, v, ps2, rs1, ra, rb, rs2, e1, e2, e3, c1, c2, c3, c4, c5, c6, c7, c8, c9⟩ := a5.cut (i := i) (by rw [List.length_cons] at hi; omega)
    refine ⟨p :: ps1, u, v, ps2, r :: rs1, ra, rb, rs2, by rw [e1]; rfl, by rw [List.length_cons, e2], by rw [e3]; rfl, ?_, c2, ?_, c4, c5, c6, c7, c8, fun m e hm => ⟨a1, a2, a3, a4, c9 m e hm⟩⟩
    · rw [c1, List.flatten_cons, List.length_append, Nat.add_assoc]
    · rw [c3, List.flatten_cons, List.length_append, Nat.add_assoc o]
  | _, _, [], _, _, hi => by simp at hi
  | 0, _, [_], _, _, hi => by simp at hi
  | 0, _, _ :: _ :: _, [], h, _ => h.elim
  | 0, _, _ :: _ :: _, [_], h, _ => h.2.2.2.2.elim
  | _ + 1, _, _ :: _, [], h, _ => h.elim
end
section
variable {prog : Program} {w : World} {A : Around} {E : Value → Shared → Prop} {s : Shared} {κ : SortKind} {U : Keyed → Prop} {L : Keyed → Keyed → Bool} {a₀ : Array Keyed} {R : List Keyed} {st : SortSt}
structure St (L : Keyed → Keyed → Bool) (κ : SortKind) (a₀ : Array Keyed) (R : List Keyed) (st : SortSt) : Prop where
  kind : kindOf st = κ
  failed : failedOf st = none
  perm : (arrOf st).Perm a₀
  ex : ∃ rs, (arrOf st).toList = rs.flatten ++ R ∧ Runs L 0 (pendingOf st).toList rs
theorem St.u (S : St L κ a₀ R st) (u0 : ∀ x ∈ a₀.toList, U x) : ∀ x ∈ (arrOf st).toList, U x := fun x hx => u0 x ((Array.perm_iff_toList_perm.mp S.perm).mem_iff.mp hx)
theorem r_join (O : TO L) (H : Asked prog w A s κ U L) (u0 : ∀ x ∈ a₀.toList, U x) (S : St L κ a₀ R st) {i : Nat} (hi : i + 1 < (pendingOf st).size) {Q : Bool → SortSt → Prop}
    (h : ∀ st', St L κ a₀ R st' → (pendingOf st').size + 1 = (pendingOf st).size → Q true st') : wpS (model prog w) A E s (mergeAt' i) Q st := by
  obtain ⟨rs, e, r⟩ := S.ex
  obtain ⟨ps1, ⟨sa, na, pw⟩, ⟨sb, nb, pz⟩, ps2, rs1, ra, rb, rs2, e1, e2, e3, c1, c2, c3, c4, c5, c6, c7, c8, c9⟩ := r.cut (i := i) (by rw [Array.length_toList]; exact hi)
  rw [Nat.zero_add] at c1 c3
  refine r_mergeAt O H S.kind S.failed e1 e2 (P := rs1.flatten) (ra := ra) (rb := rb) (S := rs2.flatten ++ R) (by rw [e, e3]; simp) (S.u u0) c1 c2 c3 c4 c5 c6 c7 c8 fun m st' k1 k2 k3 k4 k5 k6 => h st' ⟨k1, k2, ?_, ?_⟩ ?_
  · refine (Array.perm_iff_toList_perm.mpr ?_).trans S.perm
    rw [k4, e, e3]
    simp only [List.flatten_append, List.flatten_cons, List.append_assoc]
    have : (m ++ (rs2.flatten ++ R)).Perm (ra ++ (rb ++ (rs2.flatten ++ R))) := by
      rw [← List.append_assoc ra]
      exact k5.append_right _
    exact this.append_left _
  · refine ⟨rs1 ++ m :: rs2, ?_, ?_⟩
    · rw [k4]; simp
    · rw [k3]
      exact c9 m (by rw [k5.length_eq, List.length_append]) k6
  · rw [← Array.length_toList, k3, ← Array.length_toList, e1]
    simp [Nat.add_assoc]
theorem ite_or {c : Prop} [Decidable c] {a b : Nat} : (if c then a else b) = a ∨ (if c then a else b) = b := by
  split
  · exact .inl rfl
  · exact .inr rfl
theorem r_ite {α : Type} {c : Prop} [Decidable c] {x y : StateT SortSt Sem α} {Q : α → SortSt → Prop} (h1 : c → wpS (model prog w) A E s x Q st) (h2 : ¬ c → wpS (model prog w) A E s y Q st) : wpS (model prog w) A E s (if c then x else y) Q st := by
  split
  · exact h1 (by assumption)
  · exact h2 (by assumption)
theorem St.seg (S : St L κ a₀ R st) {lo : Nat} {st2 : SortSt} (e : lo + R.length = a₀.size) (G : Sg κ lo st st2) : St L κ a₀ ((arrOf st2).toList.drop lo) st2 := by
  obtain ⟨rs, e1, r⟩ := S.ex
  refine ⟨G.kind, G.failed, G.perm.trans S.perm, rs, ?_, by rw [G.pend]; exact r⟩
  have hl : lo = rs.flatten.length := by
    have := S.perm.size_eq
    rw [← Array.length_toList, e1, List.length_append] at this
    omega
  have : (arrOf st2).toList.take lo = rs.flatten := by
    have h2 : (arrOf st).toList.take lo = rs.flatten := by rw [e1, hl, List.take_left]
    rw [← h2]
    apply List.ext_getElem?
    intro k
    rw [List.getElem?_take, List.getElem?_take]
    split
    · rw [Array.getElem?_toList, Array.getElem?_toList]
      exact G.pre k (by assumption)
    · rfl
  rw [← this, List.take_append_drop]
theorem St.push (S : St L κ a₀ R st) {lo n : Nat} (e : lo + R.length = a₀.size) (h1 : 1 ≤ n) (h2 : n ≤ R.length) (hi : Inc L (R.take n)) : St L κ a₀ (R.drop n) (setPending st ((pendingOf st).push (lo, n, 0))) := by
  obtain ⟨rs, e1, r⟩ := S.ex
  have hl : lo = rs.flatten.length := by
    have := S.perm.size_eq
    rw [← Array.length_toList, e1, List.length_append] at this
    omega
  refine ⟨S.kind, S.failed, S.perm, rs ++ [R.take n], ?_, ?_⟩
  · show (arrOf st).toList = _
    rw [e1]
    simp
  · show Runs L 0 ((pendingOf st).push (lo, n, 0)).toList _
    have hn : (R.take n).length = n := by rw [List.length_take]; omega
    have := r.push (r := R.take n) (z := 0) (by omega) hi
    rw [Nat.zero_add, ← hl, hn] at this
    rw [Array.toList_push]
    exact this
theorem St.mod (S : St L κ a₀ R st) (k pw : Nat) : St L κ a₀ R (setPending st ((pendingOf st).modify k fun x => (x.1, x.2.1, pw))) := by
  obtain ⟨rs, e1, r⟩ := S.ex
  refine ⟨S.kind, S.failed, S.perm, rs, e1, r.alike ?_⟩
  show List.map _ ((pendingOf st).modify k fun x => (x.1, x.2.1, pw)).toList = _
  apply List.ext_getElem?
  intro j
  rw [List.getElem?_map, List.getElem?_map, Array.getElem?_toList, Array.getElem?_toList, Array.getElem?_modify]
  split
  · cases (pendingOf st)[j]? <;> rfl
  · rfl
theorem inc_of_up {xs : Array Keyed} {lo n : Nat} (h : Up L xs lo n) (hn : lo + n ≤ xs.size) : Inc L ((xs.toList.drop lo).take n) := by
  refine List.pairwise_iff_getElem.mpr fun i j hi hj hij => ?_
  rw [List.length_take] at hi hj
  have at' : ∀ k (hk : k < ((xs.toList.drop lo).take n).length), ((xs.toList.drop lo).take n)[k] = at_ xs (lo + k) := fun k hk => by
    rw [List.length_take, List.length_drop, Array.length_toList] at hk
    have := at_some (xs := xs) (k := lo + k) (by omega)
    rw [List.getElem_take, List.getElem_drop]
    rw [← Array.getElem?_toList] at this
    exact (List.getElem?_eq_some_iff.mp this).2
  rw [at' i (by rw [List.length_take]; omega), at' j (by rw [List.length_take]; omega)]
  exact h i j hij (by omega)
theorem r_runs (O : TO L) (H : Asked prog w A s κ U L) (u0 : ∀ x ∈ a₀.toList, U x) {Q : Unit → SortSt → Prop} (h : ∀ st', (arrOf st').Perm a₀ → failedOf st' = none → Inc L (arrOf st').toList → Q () st') : wpS (model prog w) A E s sortRuns' Q (SortSt.mk' κ a₀ #[] 7 none) := by
  refine wpS_bind (wpS_get ?_)
  dsimp only
  refine wpS_bind (wpS_mono (wpS_forRange (I := fun i c st => ∃ lo R, c = (none, lo) ∧ St L κ a₀ R st ∧ lo + R.length = a₀.size ∧ (i ≤ lo ∨ lo = a₀.size))
    (Q := fun c st => ∃ lo, c = (none, lo) ∧ St L κ a₀ [] st) ?step ?fin ⟨0, a₀.toList, rfl, ⟨rfl, rfl, Array.Perm.refl _, [], by simp [arrOf], trivial⟩, by simp, .inl (Nat.le_refl _)⟩) ?post)
  case fin =>
    rintro c st ⟨lo, R, rfl, S, e1, e2⟩
    have : R = [] := List.eq_nil_of_length_eq_zero (by
      have : (arrOf (SortSt.mk' κ a₀ #[] 7 none)).size = a₀.size := rfl
      rcases e2 with e2 | e2
      · have e3 : a₀.size ≤ lo := Nat.le_trans (Nat.le_max_right 0 _) e2
        omega
      · omega)
    subst this
    exact ⟨lo, rfl, S⟩
  case post =>
    rintro c st ⟨lo, rfl, S⟩
    dsimp only
    have s0 : (pendingOf st).size ≤ a₀.size := by
      obtain ⟨rs, e1, r⟩ := S.ex
      have := S.perm.size_eq
      rw [← Array.length_toList, e1, List.append_nil] at this
      have l2 := r.len
      rw [Array.length_toList] at l2
      omega
    refine wpS_bind (wpS_mono (wpS_forRange (I := fun i c st => c = (none, ()) ∧ St L κ a₀ [] st ∧ ((pendingOf st).size + i ≤ a₀.size ∨ (pendingOf st).size ≤ 1)) (Q := fun c st => c = (none, ()) ∧ St L κ a₀ [] st ∧ (pendingOf st).size ≤ 1) ?_ ?_ ⟨rfl, S, .inl s0⟩) ?_)
    · rintro i c st1 _ hi ⟨rfl, S1, e⟩
      refine wpS_bind (wpS_get ?_)
      by_cases c1 : (pendingOf st1).size ≤ 1
      · rw [if_pos c1]
        exact wpS_pure ⟨rfl, S1, c1⟩
      rw [if_neg c1]
      have key : ∀ j, j = (pendingOf st1).size - 2 - 1 ∨ j = (pendingOf st1).size - 2 → j + 1 < (pendingOf st1).size := fun j hj => by omega
      refine wpS_bind (r_join O H u0 S1 (key _ ite_or) fun st2 S2 e2 => ?_)
      simp only [Bool.not_true, Bool.false_eq_true, if_false]
      exact wpS_pure ⟨rfl, S2, by omega⟩
    · rintro c st1 ⟨rfl, S1, e⟩
      have : a₀.size ≤ max 0 (arrOf (SortSt.mk' κ a₀ #[] 7 none)).size := Nat.le_max_right ..
      exact ⟨rfl, S1, by
        rcases e with e | e
        · have : (pendingOf st1).size + a₀.size ≤ a₀.size := Nat.le_trans (Nat.add_le_add_left this _) e
          omega
        · exact e⟩
    · rintro c st1 ⟨rfl, S1, e⟩
      refine wpS_pure (h st1 S1.perm S1.failed ?_)
      obtain ⟨rs, e1, r⟩ := S1.ex
      have l2 := r.len.1
      rw [Array.length_toList] at l2
      rw [e1, List.append_nil]
      match rs, l2 with
      | [], _ => exact List.Pairwise.nil
      | [x], _ =>
        have : Inc L x := by
          revert r
          cases (pendingOf st1).toList with
          | nil => exact fun r => r.elim
          | cons p ps => exact fun r => r.2.2.2.1
        simpa using this
      | _ :: _ :: l, l2 => rw [List.length_cons, List.length_cons] at l2; omega
  case step =>
    rintro i c st _ hi ⟨lo, R, rfl, S, e1, e2⟩
    dsimp only
    generalize (sortPriv% PySem.Builtin.minRun : Nat → Nat → Nat → Nat) a₀.size a₀.size 0 = mr
    by_cases c0 : lo ≥ a₀.size
    · rw [if_pos c0]
      have : R = [] := List.eq_nil_of_length_eq_zero (by omega)
      subst this
      exact wpS_pure ⟨lo, rfl, S⟩
    rw [if_neg c0]
    have sz : (arrOf st).size = a₀.size := S.perm.size_eq
    have e2' : i ≤ lo := by omega
    refine wpS_bind (r_count O H (S.u u0) ⟨S.kind, S.failed, rfl, Array.Perm.refl _, fun _ _ => rfl⟩ (by omega) (by omega) fun n st1 n1 n2 G1 up1 => ?_)
    dsimp only
    refine r_ite (fun c1 => ?a) (fun c1 => ?b)
    case' a =>
      refine wpS_bind (r_rule (wpS_bind (r_bin O H (S.u u0) G1 n1 (by omega) (by omega) up1 fun st2 G2 up2 => ?_)))
      simp only [Bool.not_true, Bool.false_eq_true, if_false]
      have f1 : 1 ≤ min (a₀.size - lo) mr := by omega
      have f2 : lo + min (a₀.size - lo) mr ≤ a₀.size := by omega
      clear up1 G1 n1 n2 c1
      generalize min (a₀.size - lo) mr = m at f1 f2 up2 ⊢
    case' b =>
      have G2 := G1
      have up2 := up1
      have f1 := n1
      have f2 : lo + n ≤ a₀.size := by omega
      clear up1 G1 n1 n2 c1
      generalize st1 = st2 at G2 up2 ⊢
      generalize n = m at f1 f2 up2 ⊢
    all_goals
      have S2 := S.seg e1 G2
      have z2 : (arrOf st2).size = a₀.size := G2.size.trans sz
      have lR : ((arrOf st2).toList.drop lo).length = a₀.size - lo := by rw [List.length_drop, Array.length_toList, z2]
      have iR := inc_of_up up2 (by omega)
      have done_ : ∀ st3, St L κ a₀ ((arrOf st2).toList.drop lo) st3 → wpS (model prog w) A E s (modify fun s => setPending s ((pendingOf s).push (lo, m, 0))) (fun _ st' => ∃ lo' R', ((none, lo + m) : Option Unit × Nat) = (none, lo') ∧ St L κ a₀ R' st' ∧ lo' + R'.length = a₀.size ∧ (i + 1 ≤ lo' ∨ lo' = a₀.size)) st3 := fun st3 S3 =>
        wpS_modify ⟨lo + m, _, rfl, S3.push (by omega) f1 (by omega) iR, by rw [List.length_drop]; omega, by omega⟩
      refine wpS_bind (wpS_get ?_)
      rcases hb : (pendingOf st2).back? with _ | ⟨s1, n1, z⟩
      · exact wpS_bind (wpS_mono (done_ st2 S2) fun _ st' hst => wpS_pure hst)
      · dsimp only
        refine wpS_bind (wpS_mono (wpS_forRange (I := fun i c st3 => c = (none, ()) ∧ St L κ a₀ ((arrOf st2).toList.drop lo) st3) (Q := fun c st3 => c = (none, ()) ∧ St L κ a₀ ((arrOf st2).toList.drop lo) st3) ?_ ?_ ⟨rfl, S2⟩) ?_)
        · rintro j c st3 _ _ ⟨rfl, S3⟩
          refine wpS_bind (wpS_get ?_)
          by_cases c2 : (pendingOf st3).size > 1
          · rw [if_pos c2]
            have hp : (pendingOf st3)[(pendingOf st3).size - 2]? = some (pendingOf st3)[(pendingOf st3).size - 2] := Array.getElem?_eq_getElem (by omega)
            rw [hp]
            generalize (pendingOf st3)[(pendingOf st3).size - 2] = q
            obtain ⟨q1, q2, q3⟩ := q
            dsimp only
            refine r_ite (fun _ => wpS_pure ⟨rfl, S3⟩) fun _ => ?_
            have key : ∀ j, j = (pendingOf st3).size - 2 → j + 1 < (pendingOf st3).size := fun j hj => by omega
            refine wpS_bind (r_join O H u0 S3 (key _ rfl) fun st4 S4 _ => ?_)
            simp only [Bool.not_true, Bool.false_eq_true, if_false]
            exact wpS_pure ⟨rfl, S4⟩
          · rw [if_neg c2]
            exact wpS_pure ⟨rfl, S3⟩
        · rintro c st3 ⟨rfl, S3⟩
          exact ⟨rfl, S3⟩
        · rintro c st3 ⟨rfl, S3⟩
          dsimp only
          refine wpS_bind (wpS_modify ?_)
          exact wpS_bind (wpS_mono (done_ _ (S3.mod _ _)) fun _ st' hst => wpS_pure hst)
end
end SR
end L2

namespace L2
open PySem PySem.Spec PySem.W PyProof.Rows
/-! ### sorted(a list of whole numbers), however long below a thousand -/
namespace ST
section
variable {prog : Program} {w : World} {A : Around} {E : Value → Shared → Prop} {s : Shared} {a : Addr}
end
end ST
section
variable {X : Cx} {K : PySem.W.Frag}
end
end L2
namespace L2
open PySem PySem.Spec PyProof.Rows
/-! ### the length of a set of whole numbers -/
section
variable {X : Cx} {K : PySem.W.Frag}
end
end L2

namespace L2
open PySem PySem.W PyProof.Rows
namespace ST
/-! ### what the library's tree of questions comes to, where each question has an answer -/
/-! the order asked for -/
section
variable {lt : Nat → Nat → Bool}
/-! what is asked for -/
section
variable {N : Nat} (h0 : 0 < N)
include h0
end
end
end ST
end L2

namespace L2
open PySem PySem.W PyProof.Rows
namespace ST
/-! ### rows in their order -/
noncomputable def lexB : List Int → List Int → Bool
  | x :: xs, y :: ys => if x = y then lexB xs ys else decide (x < y)
  | _, _ => false
theorem lex_as : ∀ {x y : List Int}, lexB x y = true → lexB y x = false
  | [], y, h => by cases y <;> rfl
  | _ :: _, [], h => rfl
  | a :: x, b :: y, h => by
    unfold lexB at h ⊢
    by_cases e : a = b
    · rw [if_pos e] at h
      rw [if_pos e.symm]
      exact lex_as h
    · rw [if_neg e] at h
      rw [if_neg (Ne.symm e)]
      have := of_decide_eq_true h
      exact decide_eq_false (by omega)
theorem lex_tr : ∀ {x y z : List Int}, x.length = y.length → y.length = z.length → lexB y x = false → lexB z y = false → lexB z x = false
  | [], [], [], _, _, _, _ => rfl
  | a :: x, b :: y, c :: z, h1, h2, h3, h4 => by
    unfold lexB at h3 h4 ⊢
    by_cases e1 : b = a
    · subst e1
      rw [if_pos rfl] at h3
      by_cases e2 : c = b
      · subst e2
        rw [if_pos rfl] at h4 ⊢
        exact lex_tr (Nat.succ.inj h1) (Nat.succ.inj h2) h3 h4
      · rw [if_neg e2] at h4 ⊢
        exact h4
    · rw [if_neg e1] at h3
      have n1 := of_decide_eq_false h3
      by_cases e2 : c = b
      · subst e2
        rw [if_neg e1]
        exact h3
      · rw [if_neg e2] at h4
        have n2 := of_decide_eq_false h4
        rw [if_neg (by omega)]
        exact decide_eq_false (by omega)
theorem lex_total : ∀ {x y : List Int}, x.length = y.length → lexB x y = false → lexB y x = false → x = y
  | [], [], _, _, _ => rfl
  | a :: x, b :: y, h, h1, h2 => by
    unfold lexB at h1 h2
    by_cases e : a = b
    · subst e
      rw [if_pos rfl] at h1 h2
      rw [lex_total (Nat.succ.inj h) h1 h2]
    · rw [if_neg e] at h1
      rw [if_neg (Ne.symm e)] at h2
      have := of_decide_eq_false h1
      have := of_decide_eq_false h2
      omega
section
variable {prog : Program} {w : World} {A : Around} {E : Value → Shared → Prop} {s : Shared}
/-- two rows compared, item by item -/
theorem lex_ask {Q : Bool → Shared → Prop} : ∀ {us vs : List Value} {xs ys : List Int} (i : Nat), IntsAre us xs → IntsAre vs ys → xs.length = ys.length → Q (lexB xs ys) s → KatLex prog w A true false Q (us.zip vs) i s
  | _, _, _, _, _, .nil, .nil, _, q => q
  | _, _, _, _, i, .cons (vs := us) (ns := xs) x t hx, .cons (vs := vs) (ns := ys) y u hy, hl, q => by
    refine kat_cons (wpAny_eqBool_int ?_)
    unfold lexB at q
    by_cases e : x = y
    · subst e
      rw [if_pos rfl] at q
      rw [beq_self_eq_true]
      exact kat_yes (lex_ask (i + 1) hx hy (Nat.succ.inj hl) q)
    · rw [if_neg e] at q
      rw [beq_eq_false_iff_ne.mpr e]
      refine kat_no ?_
      cases c : (true && i == 0) with
      | true => exact oneLt_int q
      | false => exact kat_one _ _ (lt_int q)
/-- a row in the heap -/
noncomputable def RowAt (h : Heap) (m : Nat) (r : Addr × List Int) : Prop := r.2.length = m ∧ ∃ o its n, h.get? r.1 = some o ∧ o.cls = .type "tuple" ∧ o.data = .seq its n ∧ IntsAre its.toList r.2
theorem row_lt {m : Nat} {a b : Addr × List Int} {Q : Bool → Shared → Prop} (ha : RowAt s.heap m a) (hb : RowAt s.heap m b) (q : Q (lexB a.2 b.2) s) : wpAny (model prog w) A (keyLt' (tuples' true) (.ref a.1) (.ref b.1)) Q E s := by
  obtain ⟨l1, o1, i1, n1, h1, _, d1, r1⟩ := ha
  obtain ⟨l2, o2, i2, n2, h2, _, d2, r2⟩ := hb
  have e1 : i1.size = m := by rw [← Array.length_toList, r1.length, l1]
  have e2 : i2.size = m := by rw [← Array.length_toList, r2.length, l2]
  refine kat_lt h1 d1 h2 d2 ?_
  rw [e1, e2, decide_eq_false (Nat.lt_irrefl _)]
  exact lex_ask 0 r1 r2 (by rw [l1, l2]) q
end
end ST
end L2

namespace L2
open PySem PySem.Spec PySem.W PyProof.Rows
namespace ST
/-! ### list.sort of rows -/
section
variable {prog : Program} {w : World} {A : Around} {E : Value → Shared → Prop} {s : Shared} {L a : Addr} {mm : Str → Option Value} {m : Nat} {rows : List (Addr × List Int)}
noncomputable abbrev rf (r : Addr × List Int) : Value := .ref r.1
theorem RowAt.first {h : Heap} (hm : 1 ≤ m) : ∀ {rows : List (Addr × List Int)}, (∀ r ∈ rows, RowAt h m r) → ∃ fs : List Value, fs.length = rows.length ∧ KatTups h (rows.map rf) fs ∧ ∀ v ∈ fs, ∃ i t, v = .int i t
  | [], _ => ⟨[], rfl, .nil, fun v h => by cases h⟩
  | r :: rows, hr => by
    obtain ⟨fs, e, t, hv⟩ := RowAt.first hm (rows := rows) fun x hx => hr x (List.mem_cons_of_mem _ hx)
    obtain ⟨l, o, its, n, h1, h2, h3, h4⟩ := hr r (List.mem_cons_self ..)
    have : ∃ i t, its[0]? = some (Value.int i t) := by
      rw [← Array.getElem?_toList]
      revert h4 l
      generalize its.toList = us
      generalize r.2 = zs
      intro l h4
      cases h4 with
      | nil => exact absurd l (by simp; omega)
      | cons i t _ => exact ⟨i, t, rfl⟩
    obtain ⟨i, t0, e0⟩ := this
    refine ⟨.int i t0 :: fs, by rw [List.length_cons, List.length_cons, e], KatTups.cons h1 h2 h3 e0 t, fun v hv' => ?_⟩
    rcases List.mem_cons.mp hv' with z | z
    · exact ⟨i, t0, z⟩
    · exact hv v z
theorem perm_map' {α β : Type} {f : α → β} {l : List β} {xs : List α} (h : l.Perm (xs.map f)) : ∃ ys : List α, ys.Perm xs ∧ l = ys.map f := by
  generalize e : xs.map f = l2 at h
  induction h generalizing xs with
  | nil => exact ⟨[], by rw [List.map_eq_nil_iff.mp e], rfl⟩
  | cons x h ih =>
    obtain ⟨y, ys, rfl, rfl, e'⟩ := List.map_eq_cons_iff.mp e
    obtain ⟨zs, p, rfl⟩ := ih e'
    exact ⟨y :: zs, p.cons y, rfl⟩
  | swap x y l =>
    obtain ⟨a, as, rfl, rfl, e'⟩ := List.map_eq_cons_iff.mp e
    obtain ⟨b, bs, rfl, rfl, rfl⟩ := List.map_eq_cons_iff.mp e'
    exact ⟨b :: a :: bs, List.Perm.swap .., rfl⟩
  | trans h1 h2 ih1 ih2 =>
    obtain ⟨ys, p, rfl⟩ := ih2 e
    obtain ⟨zs, p', e'⟩ := ih1 rfl
    exact ⟨zs, p'.trans p, e'⟩
/-- the row that stands at a key's place -/
noncomputable def keyK (m : Nat) (rows : List (Addr × List Int)) (x : Keyed) : List Int := match x.1 with
  | .ref a => ((rows.find? fun r => r.1 == a).map (·.2)).getD (List.replicate m 0)
  | _ => List.replicate m 0
theorem keyK_len (hr : ∀ r ∈ rows, r.2.length = m) (x : Keyed) : (keyK m rows x).length = m := by
  unfold keyK
  split
  · cases e : rows.find? fun r => r.1 == _ with
    | none => exact List.length_replicate
    | some r => exact hr r (List.mem_of_find?_eq_some e)
  · exact List.length_replicate
theorem keyK_ord (hr : ∀ r ∈ rows, r.2.length = m) : SR.TO fun x y => lexB (keyK m rows x) (keyK m rows y) :=
  ⟨fun h => lex_as h, fun {x y z} h1 h2 => lex_tr (by rw [keyK_len hr, keyK_len hr]) (by rw [keyK_len hr, keyK_len hr]) h1 h2⟩
theorem keyK_of {h : Heap} (hr : ∀ r ∈ rows, RowAt h m r) {r : Addr × List Int} (hm : r ∈ rows) : keyK m rows (rf r, rf r) = r.2 := by
  show ((rows.find? fun q => q.1 == r.1).map (·.2)).getD (List.replicate m 0) = r.2
  cases e : rows.find? fun q => q.1 == r.1 with
  | none => exact absurd (List.find?_eq_none.mp e r hm) (by simp)
  | some q =>
    have e1 : q.1 = r.1 := by simpa using List.find?_some e
    obtain ⟨_, o1, i1, n1, g1, _, d1, r1⟩ := hr q (List.mem_of_find?_eq_some e)
    obtain ⟨_, o2, i2, n2, g2, _, d2, r2⟩ := hr r hm
    rw [e1, g2] at g1
    cases g1
    rw [d2] at d1
    cases d1
    show q.2 = r.2
    rw [← r1.nums, ← r2.nums]
end
end ST
end L2

namespace L2
open PySem PySem.Spec PySem.W PyProof.Rows
/-! ### sorted(whole numbers, key=lambda ..) whose keys are tuples of whole numbers -/
namespace ST
noncomputable abbrev Zk := (Addr × List Int) × Value × Int
noncomputable abbrev zk (z : Zk) : Keyed := (rf z.1, z.2.1)
noncomputable def ZUp (zs : List Zk) : Prop := zs.Pairwise fun x y => lexB y.1.2 x.1.2 = false
theorem zk_zip : ∀ zs : List Zk, (zs.map fun z => rf z.1).zip (zs.map fun z => z.2.1) = zs.map zk
  | [] => rfl
  | z :: zs => by rw [List.map_cons, List.map_cons, List.zip_cons_cons, zk_zip zs]; rfl
section
variable {prog : Program} {w : World} {A : Around} {E : Value → Shared → Prop} {s : Shared} {m : Nat} {a : Addr} {kS : Value} {e1 : Nat}
theorem kend {zs : List Zk} {P : PySem.Fin → Shared → Prop} (hm : 1 ≤ m) (hr : ∀ z ∈ zs, RowAt s.heap m z.1)
    (h : ∀ st zs', (arrOf st).toList = zs'.map zk → zs'.Perm zs → ZUp zs' → failedOf st = none → wpAny (model prog w) A (ksk_tail a false e1 kS st) P E s) :
    wpAny (model prog w) A (ksk_end a false (zs.map fun z => z.2.1).toArray e1 kS (zs.map fun z => rf z.1).toArray) P E s := by
  have za : (((zs.map fun z => rf z.1).toArray).zip ((zs.map fun z => z.2.1).toArray)).toList = zs.map zk := by
    rw [Array.toList_zip, List.toList_toArray]
    exact zk_zip zs
  unfold ksk_end
  simp only [Bool.false_eq_true, if_false]
  by_cases h2 : ((zs.map fun z => z.2.1).toArray).size < 2
  · rw [if_pos h2, if_pos h2]
    refine wpAny_bind (wpAny_pure ?_)
    rw [StateT.run_pure]
    refine wpAny_bind (wpAny_pure ?_)
    dsimp only
    refine h _ zs za (List.Perm.refl _) ?_ rfl
    rw [List.size_toArray, List.length_map] at h2
    unfold ZUp
    match zs, h2 with
    | [], _ => exact List.Pairwise.nil
    | [r], _ => exact List.pairwise_singleton _ _
    | _ :: _ :: l, c2 => exact absurd c2 (by simp)
  · rw [if_neg h2, if_neg h2]
    rw [List.size_toArray, List.length_map] at h2
    have hr' : ∀ r ∈ zs.map (·.1), RowAt s.heap m r := fun r hx => by
      obtain ⟨z, hz, rfl⟩ := List.mem_map.mp hx
      exact hr z hz
    obtain ⟨fs, lf, tf, hf⟩ := RowAt.first hm hr'
    rw [List.length_map] at lf
    have eR : (zs.map fun z => rf z.1) = (zs.map (·.1)).map rf := by rw [List.map_map]; rfl
    have tf' : KatTups s.heap (zs.map fun z => rf z.1) fs := by rw [eR]; exact tf
    refine wpAny_bind (kat_kind (T := .type "int") tf' (by omega) (fun v hv => ?_) (by rfl) ?_)
    · obtain ⟨i, t, rfl⟩ := hf v hv
      exact Looks.of_pure rfl
    rw [show (Value.type "int" != Value.type "tuple") = true from by decide]
    refine wpAny_bind (wpAny_mono (SR.r_runs (κ := tuples' true) (U := fun x => ∃ z ∈ zs, x = zk z) (keyK_ord (rows := zs.map (·.1)) fun r hx => (hr' r hx).1) (fun x y ux uy => ?_) (fun x hx => ?_) (Q := fun _ st => failedOf st = none ∧ ∃ zs', (arrOf st).toList = zs'.map zk ∧ zs'.Perm zs ∧ ZUp zs') fun st' pe fl inc => ⟨fl, ?_⟩) ?_ fun _ _ e => e)
    · obtain ⟨z, hz, rfl⟩ := ux
      obtain ⟨z', hz', rfl⟩ := uy
      refine row_lt (hr z hz) (hr z' hz') ⟨rfl, ?_⟩
      have e1 := keyK_of hr' (List.mem_map_of_mem (f := (·.1)) hz)
      have e2 := keyK_of hr' (List.mem_map_of_mem (f := (·.1)) hz')
      show lexB z.1.2 z'.1.2 = lexB (keyK m (zs.map (·.1)) (rf z.1, rf z.1)) (keyK m (zs.map (·.1)) (rf z'.1, rf z'.1))
      rw [e1, e2]
    · rw [za] at hx
      obtain ⟨z, hz, rfl⟩ := List.mem_map.mp hx
      exact ⟨z, hz, rfl⟩
    · have pl := Array.perm_iff_toList_perm.mp pe
      rw [za] at pl
      obtain ⟨zs', p', e'⟩ := perm_map' pl
      refine ⟨zs', e', p', ?_⟩
      unfold ZUp
      have := inc
      rw [e', SR.Inc, List.pairwise_map] at this
      refine this.imp_of_mem fun {x y} hx hy hh => ?_
      have e1 := keyK_of hr' (List.mem_map_of_mem (f := (·.1)) (p'.mem_iff.mp hx))
      have e2 := keyK_of hr' (List.mem_map_of_mem (f := (·.1)) (p'.mem_iff.mp hy))
      have h' : lexB (keyK m (zs.map (·.1)) (rf y.1, rf y.1)) (keyK m (zs.map (·.1)) (rf x.1, rf x.1)) = false := hh
      rw [e1, e2] at h'
      exact h'
    · rintro ⟨⟨⟩, st⟩ s' ⟨rfl, fl, zs', ar, pr, up⟩
      dsimp only
      exact h st zs' ar pr up fl
end
end ST
noncomputable def heldO (a : Addr) (e : Nat) : HO := .ext fun h => h.get? a = some (seqObj "list" #[] e)
section
variable {X : Cx} {pins : List (Addr × Obj)} {σ : St} {H : Hp} {s : Shared} {A : Around} {E : Value → Shared → Prop}
theorem vals_of_zs : ∀ {zs : List ST.Zk}, (∀ z ∈ zs, ∃ t, z.2.1 = Value.int z.2.2 t) → Vals (zs.map fun z => V.int z.2.2) (zs.map fun z => z.2.1)
  | [], _ => .nil
  | z :: zs, h => .cons (h z List.mem_cons_self) (vals_of_zs fun y hy => h y (List.mem_cons_of_mem _ hy))
theorem vals_zs : ∀ {ns : List Int} {its : List Value}, Vals (ns.map V.int) its → ∀ (ks : List (Addr × List Int)), ks.length = ns.length → ∃ zs : List ST.Zk, zs.map (fun z => z.1) = ks ∧ (zs.map fun z => z.2.1) = its ∧ (zs.map fun z => z.2.2) = ns ∧ ∀ z ∈ zs, ∃ t, z.2.1 = Value.int z.2.2 t
  | [], _, h, ks, e => by
    cases h
    cases ks with
    | nil => exact ⟨[], rfl, rfl, rfl, fun _ z => nomatch z⟩
    | cons k r => cases e
  | n :: ns, _, h, ks, e => by
    cases h with
    | cons r t =>
      cases ks with
      | nil => cases e
      | cons k ks =>
        obtain ⟨zs, e1, e2, e3, e4⟩ := vals_zs t ks (by simpa using e)
        obtain ⟨tk, rfl⟩ := (show ∃ t, _ = Value.int n t from r)
        refine ⟨(k, .int n tk, n) :: zs, by rw [List.map_cons, e1], by rw [List.map_cons, e2], by rw [List.map_cons, e3], fun z hz => ?_⟩
        rcases List.mem_cons.mp hz with rfl | hz
        · exact ⟨tk, rfl⟩
        · exact e4 z hz
/-- a list of the heap is made anew, in the layer's words -/
theorem put_list {a : Addr} {xs : Array Value} {n : Nat} {f : Array Value → Array Value} {ys : List V} {Q : Unit → Shared → Prop} (I : Inv X pins σ H s) (mu : Mut (H a)) (ho : s.heap.get? a = some (seqObj "list" xs n)) (hx : xs.size ≤ sizeLine)
    (rv : Vals ys (f xs).toList) (hz : ys.length ≤ sizeLine) (h : ∀ s', Inv X pins σ (upd H a (.lst ys)) s' → Q () s') : wpAny (model X.prog X.w) A (Builtin.List.listUpdate (.ref a) f) Q E s := by
  have l : ys.length = (f xs).size := by rw [rv.length, Array.length_toList]
  refine listUpdate_at ho rfl (h _ ?_) hx (by rw [← l]; exact Nat.le_succ_of_le hz)
  obtain ⟨e2, o2⟩ : ∃ e2, (s.heap.update a (Obj.mapSeq f)).get? a = some (seqObj "list" (f xs) e2) := ⟨_, get?_update_seq ho f⟩
  exact I.write (x := a) (e := a) (t' := s.toks) mu (.inl rfl) (fun b u hb e => by rw [Heap.get?_update_ne _ _ _ _ hb]; exact e) ⟨_, o2⟩ (show ObjOk X.prog X.w _ _ a (.lst ys) from ⟨hz, (f xs).toList, e2, rv, by rw [Array.toArray_toList]; exact o2⟩)
theorem ktail {a kS : Addr} {e1 : Nat} {ks : List V} {st : SortSt} {zs : List ST.Zk} {P : PySem.Fin → Shared → Prop} (I : Inv X pins σ H s) (hk : H kS = some (.lst ks)) (ha : H a = some (heldO a e1)) (har : (arrOf st).toList = zs.map ST.zk) (hf : failedOf st = none) (hz : zs.length ≤ sizeLine)
    (hv : ∀ z ∈ zs, ∃ t, z.2.1 = Value.int z.2.2 t) (h : ∀ s', Inv X pins σ (upd (upd H kS (.lst [])) a (.lst (zs.map fun z => V.int z.2.2))) s' → P (.done (.ret .none)) s') :
    wpAny (model X.prog X.w) A (ksk_tail a false e1 (.ref kS) st) P E s := by
  obtain ⟨hz1, its, n, rv, hkh⟩ := I.hok kS _ hk
  have nak : a ≠ kS := ne_of ha hk fun z => nomatch z
  unfold ksk_tail
  dsimp only
  refine wpAny_bind (put_list (ys := []) I (by rw [hk]; exact trivial) hkh (by rw [List.size_toArray, ← rv.length]; exact hz1) .nil (Nat.zero_le _) fun s1 I1 => ?_)
  refine wpAny_bind (wpAny_letGo ?_)
  have ha1 : (upd H kS (.lst [])) a = some (heldO a e1) := by rw [upd_ne nak]; exact ha
  have hah : s1.heap.get? a = some (seqObj "list" #[] e1) := (I1.hok a _ ha1).1
  refine wpAny_bind (seqEpoch_at hah rfl ?_)
  simp only [Bool.false_eq_true, if_false]
  have em : ((arrOf st).map (·.2)).toList = zs.map fun z => z.2.1 := by rw [Array.toList_map, har, List.map_map]; rfl
  refine wpAny_bind (put_list (ys := zs.map fun z => V.int z.2.2) I1 (by rw [ha1]; exact trivial) hah (Nat.zero_le _) (by rw [em]; exact vals_of_zs hv) (by rw [List.length_map]; exact hz) fun s2 I2 => ?_)
  rw [hf]
  simp only [bne_self_eq_false, Bool.false_eq_true, if_false]
  exact wpAny_pure (h _ I2)
/-- where the keys are asked for, one by one -/
noncomputable def KeyR (te : TE) (σ : St) (key : Int → List Int) (n : Int) (H : Hp) : Prop := te (some (.int n) :: σ) H fun y H' => Same H H' ∧ ∃ t, y = .ref t ∧ H' t = some (.tup ((key n).map V.int))
theorem sort_key {c f a : Addr} {x0 qual : Str} {sc : Scope} {params : Arguments} {body : Expr} {te : TE} {key : Int → List Int} {m : Nat} {ns : List Int} {P : PySem.Fin → Shared → Prop} (hA : A.frames = some X.stack) (hd : A.handled = none) (hroom : A.depth < recursionLimit)
    (S : LScope X true x0 sc) (hbind : ∀ pm ctv u, bindArgs (PySem.W.kla_fn "<lambda>" qual params body sc (clF X.env.cells sc.names []) pm (.ref c) ctv) ⟨[u], []⟩ = pure [(x0, u)])
    (hb : ∀ s3 H3, PE (cxL X A true x0 qual sc f (.ref c) (fun _ _ => False) s3 H3) body te) (hm : 1 ≤ m) (hkm : ∀ n, (key n).length = m) (hm2 : m ≤ 100)
    (I : Inv X pins σ H s) (hf : H f = some (lamO f qual params body sc (clF X.env.cells sc.names []) c)) (hc : H c = some (codeO c qual)) (ha : H a = some (.lst (ns.map V.int))) (hl : ns.length < 1000)
    (hkey : ∀ n ∈ ns, ∀ H', But a H H' → KeyR te σ key n H')
    (h : ∀ (s' : Shared) (H' : Hp) (ns' : List Int), Inv X pins σ H' s' → But a H H' → H' a = some (.lst (ns'.map V.int)) → ns'.Perm ns → ns'.Pairwise (fun x y => ST.lexB (key y) (key x) = false) → P (.done (.ret .none)) s') :
    wpAny (model X.prog X.w) A (Builtin.«list.sort» ⟨[.ref a], [(Str.ofString "key", .ref f)]⟩) P E s := by
  obtain ⟨hz1, its, n0, rv, hah⟩ := I.hok a _ ha
  have li : its.length = ns.length := by rw [← rv.length, List.length_map]
  have few : its.toArray.size ≤ sizeLine := by rw [List.size_toArray, li]; exact Nat.le_trans (Nat.le_of_lt hl) (by decide)
  rw [ksk_t1]
  unfold ksk_tree
  refine wpAny_bind (listItems_at hah rfl (wpAny_bind (listUpdate_at hah rfl ?_ few (Nat.zero_le _))))
  obtain ⟨e1, o1⟩ : ∃ e1, (s.heap.update a (Obj.mapSeq fun _ => (#[] : Array Value))).get? a = some (seqObj "list" #[] e1) := ⟨_, get?_update_seq hah _⟩
  have I1 : Inv X pins σ (upd H a (heldO a e1)) { s with heap := s.heap.update a (Obj.mapSeq fun _ => (#[] : Array Value)) } :=
    I.write (x := a) (e := a) (t' := s.toks) (by rw [ha]; exact trivial) (.inl rfl) (fun b u hb e => by rw [Heap.get?_update_ne _ _ _ _ hb]; exact e) ⟨_, o1⟩ ⟨o1, ⟨_, o1⟩, fun h1 h2 z k => k _ z⟩
  refine wpAny_bind (seqEpoch_at o1 rfl (wpAny_bind (wpAny_newTuple (wpAny_bind (wpAny_newList (wpAny_holding ?_) (Nat.zero_le _))) few)))
  have I2 : Inv X pins σ (upd H a (heldO a e1)) { s with heap := (s.heap.update a (Obj.mapSeq fun _ => (#[] : Array Value))).push { cls := .type "tuple", data := .seq its.toArray } } := I1.kept (t' := s.toks) fun b u e => Heap.get?_push_of_some _ e
  generalize (s.heap.update a (Obj.mapSeq fun _ => (#[] : Array Value))).push { cls := .type "tuple", data := .seq its.toArray } = h3 at I2
  have hn3 : (upd H a (heldO a e1)) h3.objs.size = none := I2.hok.fresh (Nat.le_refl _)
  have I3 : Inv X pins σ (upd (upd H a (heldO a e1)) h3.objs.size (.lst [])) { s with heap := h3.push { cls := .type "list", data := .seq #[] } } :=
    I2.laid (t' := s.toks) (fun b u e => Heap.get?_push_of_some _ e) (Nat.le_refl _) ⟨Nat.zero_le _, [], _, .nil, Heap.get?_push_size _ rfl⟩
  generalize h3.objs.size = kS at I3 hn3 ⊢
  show wpAny _ _ _ _ _ { s with heap := h3.push { cls := .type "list", data := .seq #[] } }
  generalize ({ s with heap := h3.push { cls := .type "list", data := .seq #[] } } : Shared) = s3 at I3 ⊢
  have nak : a ≠ kS := fun z => by rw [← z, upd_same] at hn3; cases hn3
  have B0 : But a H (upd (upd H a (heldO a e1)) kS (.lst [])) := fun b o e n => by
    have e' : (upd H a (heldO a e1)) b = some o := by rw [upd_ne n]; exact e
    rw [upd_ne (ne_of_none e' hn3)]; exact e'
  unfold ksk_rest
  refine wpAny_bind (wpAny_rule ?_)
  rw [List.forIn_toArray]
  refine wpAny_bind (ksk_fold (fun i s' => ∃ (Hi : Hp) (ts : List Addr), Inv X pins σ Hi s' ∧ But a H Hi ∧ Hi a = some (heldO a e1) ∧ Hi kS = some (.lst (ts.map V.ref)) ∧ (∀ b o, H b = some o → b ≠ kS) ∧ ts.length = i ∧ ∀ (j : Nat) (n : Int), j < i → ns[j]? = some n → ∃ t, ts[j]? = some t ∧ Hi t = some (.tup ((key n).map V.int))) its 0 s3
    ⟨_, [], I3, B0, by rw [upd_ne nak, upd_same], upd_same, fun b o e z => ?_, rfl, fun j n hj => absurd hj (Nat.not_lt_zero _)⟩ ?step ?done)
  · subst z
    by_cases nb : b = a
    · exact nak nb.symm
    · rw [upd_ne nb, e] at hn3; cases hn3
  case step =>
    rintro j x s' hx ⟨Hi, ts, J, B, ja, jk, nk, lt, all⟩
    rw [Nat.zero_add] at lt all
    have hj : j < its.length := (List.getElem?_eq_some_iff.mp hx).1
    obtain ⟨n, hn⟩ : ∃ n, ns[j]? = some n := ⟨_, List.getElem?_eq_getElem (by omega)⟩
    obtain ⟨u, hu, ru⟩ := rv.get (i := j) (x := V.int n) (by rw [List.getElem?_map, hn]; rfl)
    rw [hx] at hu
    cases hu
    have nfa : f ≠ a := ne_of hf ha fun z => nomatch z
    have nca : c ≠ a := ne_of hc ha fun z => nomatch z
    refine wpAny_bind (wpAny_attempt (wpAny_mono (lam_run1 (E := fun _ _ => False) S hA hd hroom (fun pm ctv => hbind pm ctv x) hb J (B _ _ hf nfa) (B _ _ hc nca) ru (hkey n (List.mem_of_getElem? hn) Hi B)) (fun v s'' he => ?_) fun _ _ hF => hF.elim))
    obtain ⟨y, H', J', ry, sm, t, rfl, ht⟩ := he
    cases ry
    dsimp only
    have jk' := sm _ _ jk
    obtain ⟨hz4, kits, n4, rv4, hk4⟩ := J'.hok kS _ jk'
    have lts : ts.length < 1000 := by omega
    refine wpAny_bind (put_list (ys := (ts ++ [t]).map V.ref) J' (by rw [jk']; exact trivial) hk4 (by rw [List.size_toArray, ← rv4.length]; exact hz4) ?_ (by rw [List.length_map, List.length_append]; exact Nat.le_trans (show ts.length + 1 ≤ 1000 by omega) (by decide)) fun s5 J5 => ?_)
    · rw [Array.toList_push, List.map_append]
      exact rv4.append (.cons rfl .nil)
    have nkt : t ≠ kS := ne_of ht jk' fun z => nomatch z
    refine wpAny_pure ⟨rfl, _, ts ++ [t], J5, fun b o e ne => ?_, ?_, upd_same, nk, by rw [List.length_append, lt, Nat.zero_add]; rfl, fun i n' hi hn' => ?_⟩
    · rw [upd_ne (nk b o e)]; exact sm _ _ (B _ _ e ne)
    · rw [upd_ne nak]; exact sm _ _ ja
    · by_cases hi' : i < j
      · obtain ⟨t', h1, h2⟩ := all i n' hi' hn'
        exact ⟨t', by rw [List.getElem?_append_left (by omega)]; exact h1, by rw [upd_ne (ne_of (sm _ _ h2) jk' fun z => nomatch z)]; exact sm _ _ h2⟩
      · have : i = j := by omega
        subst this
        rw [hn] at hn'
        cases hn'
        exact ⟨t, by rw [List.getElem?_append_right (by omega), lt, Nat.sub_self]; rfl, by rw [upd_ne nkt]; exact ht⟩
  case done =>
    rintro s' ⟨Hi, ts, J, B, ja, jk, nk, lt, all⟩
    rw [Nat.zero_add] at lt all
    obtain ⟨hz4, kits, n4, rv4, hk4⟩ := J.hok kS _ jk
    have ek : kits = ts.map Value.ref := vals_refs rv4
    obtain ⟨zs, z1, z2, z3, z4⟩ := vals_zs rv (ts.zip (ns.map key)) (by rw [List.length_zip, List.length_map]; omega)
    have rows : ∀ z ∈ zs, z.1.2 = key z.2.2 ∧ ST.RowAt s'.heap m z.1 := fun z hz => by
      obtain ⟨j, hj⟩ := List.getElem?_of_mem hz
      have j1 : (ts.zip (ns.map key))[j]? = some z.1 := by rw [← z1, List.getElem?_map, hj]; rfl
      have j3 : ns[j]? = some z.2.2 := by rw [← z3, List.getElem?_map, hj]; rfl
      obtain ⟨t, ht, hT⟩ := all j z.2.2 (by have := (List.getElem?_eq_some_iff.mp j3).1; omega) j3
      rw [List.getElem?_zip_eq_some] at j1
      have e2 : z.1.2 = key z.2.2 := by
        have := j1.2
        rw [List.getElem?_map, j3] at this
        exact (Option.some.inj this).symm
      have e1 : z.1.1 = t := by
        have := j1.1
        rw [ht] at this
        exact (Option.some.inj this).symm
      refine ⟨e2, by rw [e2]; exact hkm _, ?_⟩
      obtain ⟨_, us, ru, o, g1, g2, n5, g3⟩ := J.hok t _ hT
      refine ⟨o, us.toArray, n5, by rw [e1]; exact g1, g2, g3, ?_⟩
      rw [List.toList_toArray, e2]
      exact intsAre_of ru
    refine wpAny_bind (listItems_at hk4 rfl ?_)
    have k1 : kits.toArray = (zs.map fun z => ST.rf z.1).toArray := by
      rw [ek]
      congr 1
      have : (zs.map fun z => ST.rf z.1) = (zs.map (·.1)).map ST.rf := by rw [List.map_map]; rfl
      rw [this, z1]
      have l2 : ts.length = (ns.map key).length := by rw [List.length_map]; omega
      have : (ts.zip (ns.map key)).map ST.rf = ((ts.zip (ns.map key)).map Prod.fst).map Value.ref := by rw [List.map_map]; rfl
      rw [this, List.map_fst_zip (by omega)]
    have k2 : its.toArray = (zs.map fun z => z.2.1).toArray := by rw [z2]
    rw [k1, k2]
    refine ST.kend hm (fun z hz => (rows z hz).2) fun st zs' ar pr up fl => ?_
    have lz : zs'.length = ns.length := by rw [pr.length_eq, ← z3, List.length_map]
    refine ktail J jk ja ar fl (by rw [lz]; exact Nat.le_trans (Nat.le_of_lt hl) (by decide)) (fun z hz => z4 z (pr.mem_iff.mp hz)) fun s6 J6 => ?_
    have em : (zs'.map fun z => V.int z.2.2) = (zs'.map fun z => z.2.2).map V.int := by rw [List.map_map]; rfl
    refine h s6 _ (zs'.map fun z => z.2.2) J6 (fun b o e ne => ?_) (by rw [upd_same, em]) ?_ ?_
    · rw [upd_ne ne, upd_ne (nk b o e)]; exact B _ _ e ne
    · have := pr.map fun z => z.2.2
      rw [z3] at this
      exact this
    · rw [List.pairwise_map]
      refine List.Pairwise.imp_of_mem (fun {x y} hx hy q => ?_) up
      have q' : ST.lexB y.1.2 x.1.2 = false := q
      rw [(rows x (pr.mem_iff.mp hx)).1, (rows y (pr.mem_iff.mp hy)).1] at q'
      exact q'
theorem sql_but {K : PySem.W.Frag} {P p : Addr} {H H' : Hp} {ps : Array Value} {xs : List V} (hP : H P = some (.tbl ps)) (b : But P H H') (h : SqL K H p xs) : SqL K H' p xs := by
  rcases h with (z | ⟨o, z⟩) | z
  · exact .inl (.inl (b _ _ z (ne_of z hP fun q => nomatch q)))
  · exact .inl (.inr ⟨o, b _ _ z (ne_of z hP fun q => nomatch q)⟩)
  · exact .inr z
noncomputable def tSortKey (K : PySem.W.Frag) (P : Addr) (qual : Str) (te : TE) (key : Int → List Int) (t : TA) : TE := fun σ H Q => t σ H fun vs H1 => ∃ (p : Addr) (ns : List Int), vs = [.ref p] ∧ SqL K H1 p (ns.map V.int) ∧ ns.length < 1000 ∧ TabAt P qual H1 ∧
  (∀ n ∈ ns, ∀ H', But P H1 H' → KeyR te σ key n H') ∧ ∀ (l : Addr) (H' : Hp) (ns' : List Int), But P H1 H' → TabAt P qual H' → H1 l = none → H' l = some (.lst (ns'.map V.int)) → ns'.Perm ns → ns'.Pairwise (fun x y => ST.lexB (key y) (key x) = false) → Q (.ref l) H'
theorem pe_sortKey {K : PySem.W.Frag} {c P : Addr} {x0 qual : Str} {sc : Scope} {params : Arguments} {body e : Expr} {te : TE} {key : Int → List Int} {m : Nat} {t : TA} {p pos kp lp : Pos} (hK : X.K = K) (hg : Gl X "sorted") (hm : X.mg "sorted" = none)
    (hcode : X.env.code = .ref c) (C : PySem.W.CodeHd X.base c P) (hbm : BMod X.mg X.base) (hq : X.env.qual ++ "<lambda>" = qual) (hcalm : X.calm = true) (hroom : X.A.depth < recursionLimit) (ha : PA X [e] t)
    (S : LScope X true x0 sc) (hbind : ∀ cl c pm ctv u, bindArgs (PySem.W.kla_fn "<lambda>" qual params body sc cl pm (.ref c) ctv) ⟨[u], []⟩ = pure [(x0, u)])
    (hb : ∀ f c s3 H3, PE (cxL X X.A.in1.in1 true x0 qual sc f (.ref c) (fun _ _ => False) s3 H3) body te) (hm1 : 1 ≤ m) (hkm : ∀ n, (key n).length = m) (hm2 : m ≤ 100)
    (hdef : defaultsOf params X.env = ([], []) := by rfl)
    (he : backTo pos (starEach [e] X.env) = (false, eval e X.env) :: backTo pos (starEach [] X.env) := by rfl)
    (hpl : (backTo pos (starEach [e] X.env)).any (·.1) = false := by rfl) : PE X (.Call (.Name "sorted" p) [e] [⟨some "key", .Lambda params body sc lp, kp⟩] pos) (tSortKey K P qual te key t) := by
  subst hK
  intro pins s σ H Q I h
  have hd : X.A.handled = none := I.ok.hd hcalm
  have hA : X.A.frames = some X.stack := I.ok.frames
  refine wpAny_Call_Name_kw (ld_blt I hg hm boot_sorted ?_)
  refine callWith_kw (thn (ha pos pins s σ H _ I h) fun us s1 ⟨vs, H1, I1, r1, q1⟩ => ?_) he hpl
  obtain ⟨a, ns, rfl, hsq, hz, hT, hkey, q⟩ := q1
  obtain ⟨u, rfl, ru⟩ := vals1 r1
  cases ru
  refine thn (pk_cons (nm := some "key") (kpos := kp) (pe_lam (pos := lp) (params := params) (body := body) (sc := sc) hcode C hbm hq S.frees hdef) pk_nil pos pins s1 σ H1 (fun zs H2 => ∃ f c, zs = [.ref f] ∧ But P H1 H2 ∧ TabAt P qual H2 ∧ H1 f = none ∧ H2 f = some (lamO f qual params body sc (clF X.env.cells sc.names []) c) ∧ H2 c = some (codeO c qual)) I1 ⟨hT, fun f c H' b t n l r => ⟨f, c, rfl, b, t, n, l, r⟩⟩) fun ws s2 ⟨zs, H2, I2, rz, f, c', ez, b2, t2, n2, l2, r2⟩ => ?_
  subst ez
  obtain ⟨u, rfl, ru⟩ := vals1 rz
  cases ru
  obtain ⟨es, hP1, _⟩ := hT
  have hsq2 := sql_but hP1 b2 hsq
  obtain ⟨its, rv, pl, hz'⟩ := I2.list hsq2
  have li : its.length = ns.length := by rw [← rv.length, List.length_map]
  show wpAny _ _ (call (.builtin "sorted") [.ref a] [(Str.ofString "key", .ref f)]) _ _ _
  refine call_function_entry_kw kind_sorted plain_sorted entry_sorted (ksk_s1 _ _) ?_
  unfold Builtin.«sorted»
  refine wpAny_bind (m := checkCount "sorted" 1 1 _) (wpAny_pure (wpAny_bind (collect_list pl.isList ?_ (by rw [li]; exact Nat.le_of_lt (small1000 (by omega))))))
  dsimp only
  generalize eh : Heap.update _ _ _ = h1
  have le : s2.heap.objs.size ≤ h1.objs.size := by
    rw [← eh, Heap.size_update, size_push']
    exact Nat.le_succ _
  have keep : ∀ b o, s2.heap.get? b = some o → h1.get? b = some o := fun b o e => by
    rw [← eh]
    exact (Heap.get?_update_other _ _ (Nat.ne_of_gt (Heap.lt_size e))).trans (Heap.get?_push_of_some _ e)
  clear eh
  refine wpAny_bind (wpAny_newList ?_ (by rw [li]; exact Nat.le_trans (Nat.le_of_lt hz) (by decide)))
  dsimp only
  have ho : (h1.push { cls := .type "list", data := .seq its.toArray }).get? h1.objs.size = some (seqObj "list" its.toArray 0) := Heap.get?_push_size _ rfl
  have hn : H2 h1.objs.size = none := I2.hok.fresh le
  have I3 : Inv X pins σ (upd H2 h1.objs.size (.lst (ns.map V.int))) { s2 with heap := h1.push { cls := .type "list", data := .seq its.toArray } } :=
    I2.laid (t' := s2.toks) (fun b o e => Heap.get?_push_of_some _ (keep b o e)) le (show ObjOk X.prog X.w _ _ _ (.lst (ns.map V.int)) from ⟨by rw [List.length_map]; exact Nat.le_of_lt (small1000 (Nat.le_of_lt hz)), its, 0, rv, ho⟩)
  have hn1 : H1 h1.objs.size = none := by
    cases z : H1 h1.objs.size with
    | none => rfl
    | some o =>
      by_cases zp : h1.objs.size = P
      · obtain ⟨es2, hP2, _⟩ := t2
        rw [zp, hP2] at hn
        cases hn
      · rw [b2 _ _ z zp] at hn
        cases hn
  have ho' : ({ s2 with heap := h1.push { cls := .type "list", data := .seq its.toArray } } : Shared).heap.get? h1.objs.size = some (seqObj "list" its.toArray 0) := ho
  generalize ({ s2 with heap := h1.push { cls := .type "list", data := .seq its.toArray } } : Shared) = s3 at I3 ho' ⊢
  generalize h1.objs.size = l at hn hn1 I3 ho' ⊢
  have thru : ∀ H', But l (upd H2 l (.lst (ns.map V.int))) H' → But P H1 H' := fun H' b3 b o e n => b3 b o (by rw [upd_ne (ne_of_none (b2 b o e n) hn)]; exact b2 b o e n) (ne_of_none e hn1)
  refine wpAny_bind (wpAny_holding (wpAny_call_entry_kw slot_list_sort ⟨_, ho', rfl⟩ entry_list_sort (sort_key (A := X.A.in1.in1) hA hd (by exact hroom) S (hbind _ c') (hb f c') hm1 hkm hm2 I3 (by rw [upd_ne (ne_of_none l2 hn)]; exact l2) (by rw [upd_ne (ne_of_none r2 hn)]; exact r2) upd_same hz (fun n hn' H' b3 => hkey n hn' H' (thru H' b3)) fun s' H' ns' I4 b3 e4 pr up => ⟨_, rfl, ?_⟩) (ksk_l1 _ _)))
  refine wpAny_pure ⟨_, rfl, ?_⟩
  exact ⟨.ref l, H', I4, rfl, q l H' ns' (thru H' b3) ((t2.same (Same.new hn)).but b3 fun o e => by rw [upd_same] at e; cases e; exact ⟨fun _ z => (nomatch z), fun _ z => (nomatch z)⟩) hn1 e4 pr up⟩
end
end L2

namespace L2
open PySem PySem.Spec PyProof.Rows
/-! ### the law's head where some defs make lambdas: the tables of their codes are tracked from the start -/
/-- what is tracked at the start: the tables at ts, all empty, and it may be the script -/
noncomputable def OnlyT (ts : List Addr) (H : Hp) : Prop := (∀ P ∈ ts, H P = some (.tbl #[])) ∧ ∀ b, b ∉ ts → H b = none ∨ ∃ o xs, H b = some (.frz o (.lst xs))
theorem law_callT {P : Program} {w : World} {K : PySem.W.Frag} {mg mb : Str → Option Value} {CX : CXT} {k : Nat} {fa a : Addr} {fd : FuncData} {x : Str} {sp : Sp} {s₁ : Shared} {vs : List Value} {ns : List Int} {ts : List Addr}
    (KX : K.In s₁.heap) (hns : s₁.heap.Ns mainGlobals mg) (hb : s₁.heap.Ns builtinsNs mb) (hbb : ∀ x : Str, x ≠ "__name__" → mb x = bootBuiltins x) (hlim : s₁.heap.NoLimit) (hbm : BMod mg s₁.heap) (hg : s₁.gens = #[])
    (hts : ∀ P ∈ ts, s₁.heap.get? P = some (PySem.W.tabObj #[])) (htc : ∀ P ∈ ts, ∃ c, PySem.W.CodeHd s₁.heap c P) (hKt : PySem.W.noTabs K = true)
    (ha : s₁.heap.get? a = some { cls := .type "list", data := .seq vs.toArray }) (hi : IntsAre vs ns) (hl : ns.length ≤ sizeLine) (hr : Room k callerA)
    (F : ∀ base : Heap, K.In base → base.Ns mainGlobals mg → BMod mg base → FnOk P w K mg base CX k fa fd [x] sp) (hbind : ∀ (s : Shared) (u : Value), BindsTo s fd ⟨[u], []⟩ [(x, u)])
    (hsp : ∀ H : Hp, OnlyT ts H → SqL K H a (ns.map V.int) → sp [.ref a] H (fun v _ => v = .bl true) fun _ _ _ => False)
    (hCX : ∀ H e s', CX [] H s₁ (fun _ _ _ => False) e s' → False) :
    codeAny (model P w) callerA (.call (.ref fa) ⟨[.ref a], []⟩) (fun r s' => r = .ok (.ret (.bool true)) ∧ OldK s₁.heap s'.heap ∧ s'.os = s₁.os ∧ AllBare s'.gens) s₁ := by
  have rv := vals_ints hi
  have lenV := hi.length
  have ats : a ∉ ts := fun z => by
    have := hts a z
    rw [ha] at this
    cases this
  have kT : ∀ b ∈ ts, K.lookup b = none := fun b hb => by
    cases q : K.lookup b with
    | none => rfl
    | some o =>
      have e := KX _ _ q
      rw [hts b hb] at e
      cases e
      have h2 := List.all_eq_true.mp hKt (b, PySem.W.tabObj #[]) (PySem.W.mem_of_lookupK q)
      exact absurd (show false = true from h2) Bool.false_ne_true
  have core : ∀ H : Hp, OnlyT ts H → SqL K H a (ns.map V.int) → HOk P w H s₁.heap → (∀ b, H b ≠ none → b ∈ ts ∨ b = a) → (H a ≠ none → K.lookup a = none) →
      codeAny (model P w) callerA (.call (.ref fa) ⟨[.ref a], []⟩) (fun r s' => r = .ok (.ret (.bool true)) ∧ OldK s₁.heap s'.heap ∧ s'.os = s₁.os ∧ AllBare s'.gens) s₁ := by
    intro H hO hS hok hA hK
    have base_of : ∀ {b : Addr} {o : Obj}, s₁.heap.get? b = some o → H b = none → (hidT s₁.heap H).get? b = some o := fun e n => hidT_get e n
    have noA : ∀ {b : Addr} {o : Obj}, s₁.heap.get? b = some o → (∀ vs n, o.data ≠ .seq vs n) → (∀ vs, o.data ≠ .fields vs) → H b = none := fun {b o} e d1 d2 => by
      cases q : H b with
      | none => rfl
      | some u =>
        rcases hA b (by rw [q]; simp) with z | z
        · rw [hts b z] at e
          cases e
          exact absurd rfl (d2 _)
        · subst z
          rw [ha] at e
          cases e
          exact absurd rfl (d1 _ _)
    have nsK : ∀ {b : Addr} {m : Str → Option Value}, s₁.heap.Ns b m → (hidT s₁.heap H).Ns b m := fun {b m} ⟨o, es, ep, e, d, r⟩ => ⟨o, es, ep, base_of e (noA e (fun _ _ z => by rw [d] at z; cases z) fun _ z => by rw [d] at z; cases z), d, r⟩
    have hKb : K.In (hidT s₁.heap H) := fun b o e => base_of (KX b o e) (by
      cases q : H b with
      | none => rfl
      | some u =>
        rcases hA b (by rw [q]; simp) with z | z
        · rw [kT b z] at e; cases e
        · subst z
          rw [hK (by rw [q]; simp)] at e; cases e)
    have hM : Mod K mg (hidT s₁.heap H) := ⟨hKb, nsK hns, ⟨mb, nsK hb, hbb⟩, let ⟨mc, h1, h2⟩ := hlim; ⟨mc, nsK h1, h2⟩⟩
    have hBM : BMod mg (hidT s₁.heap H) := by
      obtain ⟨bm, ob, b1, b2, b3, b4, b5, b6⟩ := hbm
      exact ⟨bm, ob, b1, b2, base_of b3 (noA b3 (fun _ _ z => by rw [b6] at z; cases z) fun _ z => by rw [b6] at z; cases z), b4, b5, b6⟩
    have e0 : Env0 P w K mg (hidT s₁.heap H) callerA [] s₁ H := ⟨rfl, hM, fun b o e => of_hidT e, Nat.le_of_eq (hidT_size _ _), trivial, fun b hb => absurd (show b ∈ ([] : List Addr) from hb) (by simp), hok, .of_eq hg⟩
    refine codeAny_mono ((F _ hKb (nsK hns) hBM).run callerA [] s₁ H ⟨[.ref a], []⟩ [.ref a] [.ref a] _ _ hr e0 (hbind s₁ (.ref a)) (.cons rfl .nil) (hsp H hO hS)) fun r s' h => ?_
    cases r with
    | error e => exact (hCX H e s' h).elim
    | ok fl =>
      cases fl with
      | next => exact False.elim h
      | brk => exact False.elim h
      | cont => exact False.elim h
      | ret u =>
        obtain ⟨v, H', os, bare, un, hok', r', q⟩ := h
        have q' : v = .bl true := q
        subst q'
        obtain rfl : u = Value.bool true := r'
        have kept : ∀ b o, b ∉ ts → s₁.heap.get? b = some o → s'.heap.get? b = some o := fun b o nb e => by
          cases q : H b with
          | none => exact un.keep b o e q (by intro z; exact absurd (show b ∈ ([] : List Addr) from z) (by simp)) (by simp)
          | some u =>
            rcases hO.2 b nb with z | ⟨ob, xs, z⟩
            · rw [q] at z; cases z
            · have z2 := un.frzs b ob _ z
              obtain ⟨e1, _⟩ := hok b _ z
              obtain ⟨e2, _⟩ := hok' b _ z2
              rw [e] at e1; cases e1
              exact e2
        have grown : ∀ b ∈ ts, ∃ ps, s'.heap.get? b = some (PySem.W.tabObj ps) := fun b hb => by
          obtain ⟨more, e⟩ := un.tbls b _ (hO.1 b hb)
          exact ⟨_, hok' b _ e⟩
        refine ⟨rfl, ⟨fun b o e => ?_, fun b o e => ?_⟩, os, bare⟩
        · by_cases hb : b ∈ ts
          · obtain ⟨ps, hP⟩ := grown b hb
            have e' := hts b hb
            rw [e] at e'
            cases e'
            obtain ⟨c, C⟩ := htc b hb
            exact .inr (.inl ⟨(C.tab (hts b hb)).isCodeTable, rfl, #[], ps, rfl, by rw [Array.empty_append]; exact hP⟩)
          · exact .inl (kept b o hb e)
        · by_cases hb : b ∈ ts
          · obtain ⟨ps, hP⟩ := grown b hb
            exact ⟨_, hP⟩
          · exact ⟨o, kept b o hb e⟩
  cases hk : K.lookup a with
  | some o =>
    have e := KX a o hk
    rw [ha] at e
    cases e
    refine core (fun b => if b ∈ ts then some (.tbl #[]) else none) ⟨fun P h => if_pos h, fun b h => .inl (if_neg h)⟩ (.inr ⟨_, vs.toArray, _, hk, rfl, rfl, rfl, by rw [List.size_toArray, lenV]; exact hl, by simpa using rv⟩) (fun b u z => ?_) (fun b z => ?_) fun z => absurd (if_neg ats) z
    · by_cases hb : b ∈ ts
      · have z' := (if_pos hb).symm.trans z
        cases z'
        exact hts b hb
      · have z' := (if_neg hb).symm.trans z
        cases z'
    · by_cases hb : b ∈ ts
      · exact .inl hb
      · exact absurd (if_neg hb) z
  | none =>
    refine core (fun b => if b ∈ ts then some (.tbl #[]) else if b = a then some (.frz { cls := .type "list", data := .seq vs.toArray } (.lst (ns.map V.int))) else none) ⟨fun P h => if_pos h, fun b h => ?_⟩ (.inl (.inr ⟨{ cls := .type "list", data := .seq vs.toArray }, (if_neg ats).trans (if_pos rfl)⟩)) (fun b u z => ?_) (fun b z => ?_) fun _ => hk
    · by_cases hb : b = a
      · exact .inr ⟨_, _, (if_neg h).trans (if_pos hb)⟩
      · exact .inl ((if_neg h).trans (if_neg hb))
    · by_cases ht : b ∈ ts
      · have z' := (if_pos ht).symm.trans z
        cases z'
        exact hts b ht
      · have z := (if_neg ht).symm.trans z
        by_cases hb : b = a
        · have z' := (if_pos hb).symm.trans z
          cases z'
          subst hb
          exact ⟨ha, by rw [List.length_map]; exact hl, vs, _, rv, ha⟩
        · have z' := (if_neg hb).symm.trans z
          cases z'
    · by_cases ht : b ∈ ts
      · exact .inl ht
      · by_cases hb : b = a
        · exact .inr hb
        · exact absurd ((if_neg ht).trans (if_neg hb)) z
theorem walk_ofT {l : PySem.W.OpenLaw} {n k : Nat} {q : Program} {loose : List Str} {XP : (Str → Option Value) → Heap → Prop} {YP : World → Heap → Prop} {d : DefRec} {K : Params → PySem.W.Frag} {CX : World → CXT} {sp : World → Sp} {x : Str} {ts : List Addr}
    (hn : l.most = some n) (hn2 : n ≤ sizeLine) (hdf : d.params.defaults = []) (hr : Room k callerA)
    (hY : ∀ (w : World) (h : Heap), YP w h → (K w.params).In h) (hT : ∀ (w : World) (h : Heap), YP w h → ∀ P ∈ ts, h.get? P = some (PySem.W.tabObj #[])) (hC : ∀ (w : World), ∀ P ∈ ts, ∃ c, PySem.W.codeHdIn (K w.params) c P = true) (hNo : ∀ w : World, PySem.W.noTabs (K w.params) = true)
    (F : ∀ (w : World) (mg : Str → Option Value) (fa : Addr) (h : Heap), (K w.params).In h → h.Ns mainGlobals mg → mg d.name = some (.ref fa) →
      ∃ fd : FuncData, (∀ (s : Shared) (u : Value), BindsTo s fd ⟨[u], []⟩ [(x, u)]) ∧
        ∀ base : Heap, (K w.params).In base → base.Ns mainGlobals mg → BMod mg base → FnOk l.prog w (K w.params) mg base (CX w) k fa fd [x] (sp w))
    (hsp : ∀ (w : World) (H : Hp) (a : Addr) (ns : List Int), ns.length ≤ n → OnlyT ts H → SqL (K w.params) H a (ns.map V.int) → sp w [.ref a] H (fun v _ => v = .bl true) fun _ _ _ => False)
    (hCX : ∀ (w : World) (H : Hp) (s : Shared) (e : Value) (s' : Shared), CX w [] H s (fun _ _ _ => False) e s' → False) :
    PySem.W.WalkO q loose XP YP l.row.toRowW d [] (fun f vs => PySem.call f vs) := by
  refine Att.attach_call hn hdf fun w s₀ s₁ mg mb fa o pm cd doc a vs ns G Y ho hd hcd hmg hobj hints hlen hg => ?_
  have KX := hY w _ Y
  obtain ⟨fd, hb, hF⟩ := F w mg fa _ KX G.T.g hmg
  exact law_callT KX G.T.g G.T.b G.T.builtins G.T.nolimit G.T.bmain hg (hT w _ Y) (fun P hP => let ⟨c, e⟩ := hC w P hP; ⟨c, PySem.W.codeHd_of_K KX e⟩) (hNo w) hobj hints (Nat.le_trans hlen hn2) hr hF hb (fun H hO hS => hsp w H a ns hlen hO hS) fun H e s' => hCX w H s₁ e s'
/-- a def that makes lambdas: its code is told -/
theorem Fun.okT {P : Program} {w : World} {K : PySem.W.Frag} {mg : Str → Option Value} {base : Heap} {x qual : Str} {st : Stmt} {f c : Addr} {fd : FuncData} {N ps : List Str} {k : Nat} {sp : Sp} {CX : CXT} (F : Fun K x qual st f fd) (hc : fd.code = .ref c) (S : FnScope N ps (defScope st)) (len : ∀ vs H Q E, sp vs H Q E → vs.length = ps.length)
    (hbody : ∀ (A : Around) (outer : List Env) (s : Shared) (H : Hp) (vs : List V) (Q : VK) (E : XK), Room k (A.deeper (envOfC qual (defScope st) s.heap.objs.size f (.ref c))) → sp vs H Q E →
      ∃ t, PSs (cxOf CX P w K mg base N qual (defScope st) f (.ref c) A outer s H E) (defBody st) t ∧ t { nx := fun _ H' => Q .non H', rt := Q } (start N vs) H) : FnOk P w K mg base CX (k + 1) f fd ps sp := by
  obtain ⟨oc, od, kV, doc, pm, an, cdv, ct, osl, rfl, lk, hcd⟩ := F.ex
  have hc' : cdv = .ref c := hc
  subst hc'
  exact fn_of lk hcd S len fun A outer s H vs Q E hr hsp => hbody A outer s H vs Q E hr hsp
end L2

namespace L2
open PySem PySem.Spec PyProof.Rows PySem.W
/-! ### all sets within a set, size by size -/
noncomputable def manyN (a : Nat) : Nat := ((List.range 7).filter (hasB a)).length
noncomputable def rowN (a m : Nat) : List Nat := (List.range (a + 1)).filter fun x => decide (x &&& a = x) && decide (manyN x = m)
noncomputable def dueM (a m : Nat) : List Nat := (List.range m).flatMap (rowN a)
noncomputable def dueN (a : Nat) : List Nat := dueM a 8
/-- one column more for one set -/
noncomputable def upOf (a x : Nat) : List Nat := ((colsN a).filter fun c => decide (x < 2 ^ c)).map fun c => x ||| 2 ^ c
noncomputable def moreN (a : Nat) (l : List Nat) : List Nat := l.flatMap (upOf a)
theorem more_perm : ∀ a, a < 128 → ∀ i, i < 8 → (moreN a (rowN a i)).isPerm (rowN a (i + 1)) = true := by decide +kernel
theorem row_len : ∀ a, a < 128 → ∀ i, i < 9 → (rowN a i).length ≤ 35 := by decide +kernel
theorem row_zero : ∀ a, a < 128 → rowN a 0 = [0] := by decide +kernel
theorem row_last : ∀ a, a < 128 → rowN a 8 = [] := by decide +kernel
theorem row_due : ∀ a, a < 128 → ∀ i, i < 9 → rowN a i = [] → dueM a i = dueN a := by decide +kernel
theorem due_len : ∀ a, a < 128 → 1 ≤ (dueN a).length ∧ (dueN a).length ≤ 128 := by decide +kernel
theorem cols7 : ∀ a, a < 128 → (colsN a).length ≤ 7 ∧ (colsN a).all (fun c => decide (c < 7)) = true := by decide +kernel
theorem row_up (a m : Nat) : (rowN a m).Pairwise (· ≤ ·) := by
  have h : ∀ n, (List.range n).Pairwise (· ≤ ·) := fun n => List.Pairwise.imp Nat.le_of_lt List.pairwise_lt_range
  exact (h _).filter _
theorem row_is {a i : Nat} (ha : a < 128) (hi : i < 8) {ns : List Int} (p : ns.Perm ((moreN a (rowN a i)).map fun (k : Nat) => (k : Int))) (s : ns.Pairwise (· ≤ ·)) : ns = (rowN a (i + 1)).map fun (k : Nat) => (k : Int) := by
  have p2 := p.trans ((List.isPerm_iff.mp (more_perm a ha i hi)).map fun (k : Nat) => (k : Int))
  refine List.Perm.eq_of_pairwise (le := fun (x y : Int) => x ≤ y) (fun x y _ _ h1 h2 => Int.le_antisymm h1 h2) s ?_ p2
  rw [List.pairwise_map]
  exact (row_up a (i + 1)).imp fun h => Int.ofNat_le.mpr h
theorem dueM_succ (a m : Nat) : dueM a (m + 1) = dueM a m ++ rowN a m := by
  unfold dueM
  rw [List.range_succ, List.flatMap_append]
  simp
theorem upOf_len (a x : Nat) (ha : a < 128) : (upOf a x).length ≤ 7 := by
  unfold upOf
  rw [List.length_map]
  exact Nat.le_trans (List.length_filter_le _ _) (cols7 a ha).1
theorem moreN_len (a : Nat) (ha : a < 128) : ∀ l : List Nat, (moreN a l).length ≤ 7 * l.length
  | [] => Nat.zero_le _
  | x :: l => by
    have h1 := moreN_len a ha l
    have h2 := upOf_len a x ha
    show (upOf a x ++ moreN a l).length ≤ _
    rw [List.length_append, List.length_cons]
    omega
theorem moreN_succ {a i x : Nat} {l : List Nat} (h : l[i]? = some x) : moreN a (l.take (i + 1)) = moreN a (l.take i) ++ upOf a x := by
  unfold moreN
  rw [List.take_succ, h, List.flatMap_append]
  simp
theorem Same.own3 {H H' : Hp} {p : Addr} {o : HO} (e : Same H H') (h : H p = Option.none) : Same H (upd H' p o) := fun c u z => by
  rw [upd_ne (ne_of_none z h)]; exact e _ _ z
noncomputable def spOneUp : Sp := fun vs H Q _ => ∃ (p : Addr) (a i : Nat), vs = [.ref p, vN a] ∧ a < 128 ∧ i < 8 ∧ H p = some (.lst ((rowN a i).map vN)) ∧ ∀ (l : Addr) (H' : Hp), Same H H' → H l = none → H' l = some (.lst ((rowN a (i + 1)).map vN)) → Q (.ref l) H'
end L2

namespace L2
open PySem PySem.Spec PyProof.Rows
section
variable {X : Cx} {K : PySem.W.Frag}
end
/-! ### what a set settles, told by the sets that keep the rules; keys -/
/-! keys -/
end L2

namespace L2
open PySem PySem.Spec PyProof.Rows
/-! ### what a set settles, as a number; gains part by part -/
end L2

namespace L2
open PySem PySem.Spec PyProof.Rows
/-! ### the laws of cuts: their rules and parts; a cut in two -/
section
variable {K : PySem.W.Frag} {H H1 H2 : Hp} {st g p : Addr} {ns : List Int} {m k k' : Nat} {rs rs' : List Rl} {o : HO} {ys : List V}
end
theorem bits_eq {a b : Nat} (h : ∀ k, HasB a k ↔ HasB b k) : a = b := Nat.eq_of_testBit_eq fun k => by
  rw [Bool.eq_iff_iff]; exact h k
end L2

namespace L2
open PySem PySem.Spec PyProof.Rows
end L2

namespace L2
open PySem PySem.Spec PyProof.Rows
section
variable {X : Cx} {K : PySem.W.Frag}
end
/-! ### keys told by the sets that keep the rules -/
end L2

namespace L2
open PySem PySem.Spec PyProof.Rows
/-! ### every set is unfolded; gains told by the sets that keep the rules -/
end L2

namespace L2
open PySem PySem.Spec PyProof.Rows
/-! ### what is told twice, and the tree of cuts -/
open Classical in
noncomputable def unfF (m : Nat) (rs : List RD) (x : Nat) : US := if h : ∃ t, Run rs ⟨x, beginBs m x, []⟩ t then h.choose else ⟨x, [], []⟩
theorem Run.unfF {m x : Nat} {rs : List RD} {s : US} (R : Run rs ⟨x, beginBs m x, []⟩ s) : L2.unfF m rs x = s := by
  have h : ∃ t, Run rs ⟨x, beginBs m x, []⟩ t := ⟨s, R⟩
  unfold L2.unfF
  rw [dif_pos h]
  exact h.choose_spec.det R
noncomputable def bitsIn (p : Nat) (bs : List Nat) : List Nat := (bs.filter fun b => !decide (b &&& p = 0)).map fun b => b &&& p
noncomputable def gainedN (m : Nat) (rs : List RD) (p x : Nat) : Nat := (p &&& (unfF m rs x).fx) - ((p &&& (unfF m rs x).fx) &&& x)
noncomputable def againN (m : Nat) (rs : List RD) (p x : Nat) : Option Nat :=
  if p &&& (unfF m rs x).fx = p then none else if gainedN m rs p x ≠ 0 then some (gainedN m rs p x) else
    if 1 < (bitsIn p (unfF m rs x).bs).length then (bitsIn p (unfF m rs x).bs).head? else none
noncomputable def hitT (m : Nat) (rs : List RD) (p x : Nat) : Option (Nat × Nat) := (againN m rs p x).map fun g => (x, g)
noncomputable def twF (m : Nat) (rs : List RD) (p : Nat) : Option (Nat × Nat) := (dueN p).findSome? (hitT m rs p)
theorem due_sub {p x : Nat} (h : x ∈ dueN p) : x &&& p = x := by
  unfold dueN dueM rowN at h
  obtain ⟨i, _, h⟩ := List.mem_flatMap.mp h
  have := (List.mem_filter.mp h).2
  rw [Bool.and_eq_true] at this
  exact of_decide_eq_true this.1
/-! the run by levels -/
theorem tw_hit {m p i j x : Nat} {rs : List RD} {u : Nat × Nat} (h0 : (dueM p i).findSome? (hitT m rs p) = none) (h1 : ((rowN p i).take j).findSome? (hitT m rs p) = none) (hi : i < 8) (e : (rowN p i)[j]? = some x) (h : hitT m rs p x = some u) : twF m rs p = some u := by
  unfold twF dueN
  have e1 : ∀ d, ∃ z, dueM p (i + 1 + d) = dueM p (i + 1) ++ z := fun d => by
    induction d with
    | zero => exact ⟨[], by rw [List.append_nil, Nat.add_zero]⟩
    | succ d ih => obtain ⟨z, ez⟩ := ih; exact ⟨z ++ rowN p (i + 1 + d), by rw [← Nat.add_assoc, dueM_succ, ez, List.append_assoc]⟩
  obtain ⟨z, ez⟩ := e1 (7 - i)
  rw [show 8 = i + 1 + (7 - i) by omega, ez, dueM_succ, List.findSome?_append, List.findSome?_append, h0]
  have hj : j < (rowN p i).length := (List.getElem?_eq_some_iff.mp e).1
  have e2 : rowN p i = (rowN p i).take j ++ x :: (rowN p i).drop (j + 1) := by
    have ex : (rowN p i)[j] = x := (List.getElem?_eq_some_iff.mp e).2
    rw [← ex, ← List.drop_eq_getElem_cons hj, List.take_append_drop]
  rw [e2, List.findSome?_append, h1, List.findSome?_cons, h]
  rfl
theorem tw_miss {m p i j x : Nat} {rs : List RD} (h1 : ((rowN p i).take j).findSome? (hitT m rs p) = none) (e : (rowN p i)[j]? = some x) (h : hitT m rs p x = none) : ((rowN p i).take (j + 1)).findSome? (hitT m rs p) = none := by
  rw [List.take_succ, e, List.findSome?_append, h1]
  simp [h]
theorem tw_level {m p i j : Nat} {rs : List RD} (h0 : (dueM p i).findSome? (hitT m rs p) = none) (h1 : ((rowN p i).take j).findSome? (hitT m rs p) = none) (hj : (rowN p i).length ≤ j) : (dueM p (i + 1)).findSome? (hitT m rs p) = none := by
  rw [List.take_of_length_le hj] at h1
  rw [dueM_succ, List.findSome?_append, h0, h1]
  rfl
theorem tw_none {m p i : Nat} {rs : List RD} (hp : p < 128) (hi : i < 9) (h0 : (dueM p i).findSome? (hitT m rs p) = none) (e : rowN p i = []) : twF m rs p = none := by
  unfold twF
  rw [← row_due p hp i hi e]
  exact h0
/-! trees -/
theorem bitsIn_succ {p k b : Nat} {bs : List Nat} (h : bs[k]? = some b) : bitsIn p (bs.take (k + 1)) = bitsIn p (bs.take k) ++ (if b &&& p = 0 then [] else [b &&& p]) := by
  unfold bitsIn
  rw [List.take_succ, h, List.filter_append, List.map_append]
  split
  · rename_i z
    simp [z]
  · rename_i z
    simp [z]
theorem bitsIn_len (p : Nat) (bs : List Nat) (k : Nat) : (bitsIn p (bs.take k)).length ≤ k := by
  unfold bitsIn
  rw [List.length_map]
  exact Nat.le_trans (List.length_filter_le _ _) (List.length_take_le _ _)
theorem row_sub {p i x : Nat} (h : x ∈ rowN p i) : x &&& p = x := by
  unfold rowN at h
  have := (List.mem_filter.mp h).2
  rw [Bool.and_eq_true] at this
  exact of_decide_eq_true this.1
end L2

namespace L2
open PySem PySem.Spec PyProof.Rows
/-! ### exceptions: how one lies behind a call, a def that raises, a def that lets one through -/
section
variable {P : Program} {w : World} {K : PySem.W.Frag} {mg : Str → Option Value} {base : Heap} {N : List Str} {qual : Str} {scope : Scope} {f : Addr} {cd : Value} {A : Around} {outer : List Env} {s₀ : Shared} {H₀ : Hp} {E E' : XK}
end
end L2

namespace L2
open PySem PySem.Spec PyProof.Rows
/-! ### raise C(..), and try: f(..) except C as e: x = e -/
section
variable {X : Cx} {x : Str} {C : Addr} {np cpos pos : Pos} {e : Expr} {es : List Expr} {t : TA} {EX : XK}
end
/-! f-strings of two and three parts with one whole number -/
section
variable {X : Cx} {a b : Str} {e : Expr} {te : TE} {j1 j2 : Nat} {p1 p2 p3 pos : Pos}
end
end L2

namespace L2
open PySem PySem.Spec PyProof.Rows
section
variable {X : Cx} {pins : List (Addr × Obj)} {σ : St} {H : Hp} {s : Shared} {ea : Addr}
end
section
variable {X : Cx} {k : Nat} {f : Addr} {fd : FuncData} {ps : List Str} {sp : Sp} {x y : Str} {p yp ap pos : Pos} {e : Expr} {es : List Expr} {t : TA} {i : Nat}
end
section
variable {X : Cx} {body : List Stmt} {tb : (St → Hp → Prop) → (St → XK) → St → Hp → Prop} {cx n z : Str} {c : Value} {cp np zp zp2 hp pos : Pos} {j l : Nat}
end
end L2

namespace L2
open PySem PySem.Spec PyProof.Rows
/-! ### isinstance of a caught exception -/
section
open PySem.W PySem.Calls PySem.Builtin PySem.Builtin.ObjectAttr PySem.Builtin.Getset_descriptor
variable {K : PySem.W.Frag} {prog : Program} {w : World} {A : Around} {E : Value → Shared → Prop} {s : Shared} {ea C : Addr}
end
end L2

namespace L2
open PySem PySem.Spec PyProof.Rows
/-! ### the cover of a cover is the cover -/
/-! keys hang on what the rules say alone -/
end L2

namespace L2
open PySem PySem.Spec PyProof.Rows
/-! ### parts by the cover: lefts as they are first met, what stands with each -/
/-! ### a key more, and those within others left out -/
/-! ### what the defs promise -/
end L2

namespace L2
open PySem PySem.Spec PyProof.Rows
end L2

namespace L2
open PySem PySem.Spec PyProof.Rows
/-! ### pairs and trees in the heap -/
noncomputable def optN : Option Nat → V
  | none => .non
  | some g => vN g
noncomputable def PairV (H : Hp) : Option (Nat × Nat) → V → Prop
  | none, v => v = .non
  | some u, v => ∃ a, v = .ref a ∧ H a = some (.tup [vN u.1, vN u.2])
theorem PairV.same {H H' : Hp} (e : Same H H') : ∀ {o : Option (Nat × Nat)} {v : V}, PairV H o v → PairV H' o v
  | none, _, h => h
  | some _, _, ⟨a, h1, h2⟩ => ⟨a, h1, e _ _ h2⟩
theorem shaped_dP (a : Int × Int) : SeqAt.shaped (dP a) = true := by
  have h1 := canLay_dP a
  have h2 := depth_dP a
  show (PyData.canLay0 (dP a) && decide (PyData.depth (dP a) ≤ 64)) = true
  rw [Bool.and_eq_true]
  exact ⟨h1, decide_eq_true (by omega)⟩
/-! ### promises -/
noncomputable def spAgain (K : PySem.W.Frag) : Sp := fun vs H Q _ => ∃ (m p x : Nat) (rl : Addr) (rs : List Rl), vs = [vN m, .ref rl, vN p, vN x] ∧ m ≤ 7 ∧ x < 2 ^ m ∧ SqL K H rl (rs.map fun r => V.ref r.r) ∧ RulesAt H m rs ∧ rs.length ≤ 200 ∧
  ∀ H', Same H H' → Q (optN (againN m (rs.map Rl.d) p x)) H'
noncomputable def spTwice (K : PySem.W.Frag) : Sp := fun vs H Q _ => ∃ (m p : Nat) (rl : Addr) (rs : List Rl), vs = [vN m, .ref rl, vN p] ∧ m ≤ 7 ∧ p < 2 ^ m ∧ SqL K H rl (rs.map fun r => V.ref r.r) ∧ RulesAt H m rs ∧ rs.length ≤ 200 ∧
  ∀ v H', Same H H' → PairV H' (twF m (rs.map Rl.d) p) v → Q v H'
end L2

namespace L2
open PySem PySem.Spec PyProof.Rows
/-! ### a lambda's scope, reckoned -/
noncomputable def lscB (o : Bool) (x0 : Str) (N : List Str) (osc sc : Scope) : Bool :=
  decide (sc.kind = .function) && decide (sc.isCoroutine = false) && decide (sc.isGenerator = false) && (!o || decide (sc.names.lookup x0 = some .cell)) && sc.names.all (fun y => decide (y.2 ≠ .cell) || (o && decide (y.1 = x0))) && sc.names.all (fun y => decide (y.2 ≠ .local)) &&
    sc.names.all (fun y => decide (y.2 ≠ .free) || (decide (osc.names.lookup y.1 = some .cell) || decide (osc.names.lookup y.1 = some .free))) && decide ((owN o x0 N).Nodup)
theorem lsc {X : Cx} {o : Bool} {x0 : Str} {sc : Scope} (N : List Str) (osc : Scope) (hN : X.N = N) (ho : X.env.scope = osc) (h : lscB o x0 N osc sc = true) (laid : ∀ a cl, cellsFrom a sc.names cl = owC o x0 a cl) (push : ∀ h : Heap, pushCells h sc.names = cond o (h.push { cls := .type "cell", data := .cell none }) h) : LScope X o x0 sc := by
  unfold lscB at h
  simp only [Bool.and_eq_true, List.all_eq_true, decide_eq_true_eq, Bool.or_eq_true] at h
  obtain ⟨⟨⟨⟨⟨⟨⟨h1, h2⟩, h3⟩, h4⟩, h5⟩, h6⟩, h7⟩, h8⟩ := h
  refine ⟨h1, h2, h3, fun z => h4.resolve_left (by rw [z]; decide), fun y hy e => (h5 y hy).resolve_left fun z => z e, h6, fun y hy e => ?_, laid, push, by rw [hN]; exact h8⟩
  show X.env.scope.names.lookup y.1 = _ ∨ X.env.scope.names.lookup y.1 = _
  rw [ho]
  exact (h7 y hy).resolve_left fun z => z e
/-! ### k60: the sets within a part in their order -/
noncomputable def keyW (n : Int) : List Int := [((manyN n.toNat : Nat) : Int), n]
theorem due_up : ∀ p, p < 128 → ((dueN p).map fun (k : Nat) => (k : Int)).Pairwise (fun x y => ST.lexB (keyW y) (keyW x) = false) := by decide +kernel
theorem due_perm : ∀ p, p < 128 → ((List.range 128).filter fun x => decide (x &&& p = x)).isPerm (dueN p) = true := by decide +kernel
theorem range_cut {n m : Nat} (h : n ≤ m) (g : Nat → Bool) (hg : ∀ x, n ≤ x → g x = false) : (List.range m).filter g = (List.range n).filter g := by
  obtain ⟨d, rfl⟩ := Nat.exists_eq_add_of_le h
  induction d with
  | zero => rfl
  | succ d ih => rw [← Nat.add_assoc, filt_succ, ih (Nat.le_add_right _ _), hg _ (Nat.le_add_right _ _), if_neg Bool.false_ne_true, List.append_nil]
theorem within_is {m p : Nat} (m7 : m ≤ 7) (hp : p < 2 ^ m) {ns : List Int} (pe : ns.Perm (((List.range (2 ^ m)).filter fun x => decide (x &&& p = x)).map fun (k : Nat) => (k : Int))) (up : ns.Pairwise fun x y => ST.lexB (keyW y) (keyW x) = false) : ns = (dueN p).map fun (k : Nat) => (k : Int) := by
  have p7 := pow7 m7
  have e := range_cut (n := 2 ^ m) (m := 128) p7 (fun x => decide (x &&& p = x)) fun x hx => decide_eq_false fun z => by
    have : x ≤ p := by rw [← z]; exact Nat.and_le_right
    omega
  rw [← e] at pe
  have p2 := pe.trans ((List.isPerm_iff.mp (due_perm p (by omega))).map fun (k : Nat) => (k : Int))
  refine List.Perm.eq_of_pairwise (le := fun (x y : Int) => ST.lexB (keyW y) (keyW x) = false) (fun x y _ _ h1 h2 => ?_) up ?_ p2
  · have z := ST.lex_total (x := keyW y) (y := keyW x) rfl h1 h2
    exact (List.cons.inj (List.cons.inj z).2).1.symm
  · exact due_up p (by omega)
theorem many_m {m x : Nat} (m7 : m ≤ 7) (hx : x < 2 ^ m) : ((List.range m).filter (hasB x)).length = manyN x := by
  unfold manyN
  rw [range_cut (n := m) (m := 7) m7 (hasB x) fun k hk => ?_]
  rw [hasB_tb]
  exact Nat.testBit_lt_two_pow (Nat.lt_of_lt_of_le hx (Nat.pow_le_pow_right (by decide) hk))
noncomputable def qW : Str := ("_law_within" ++ ".<locals>.") ++ "<lambda>"
noncomputable def spWithin60 (K : PySem.W.Frag) (P : Addr) : Sp := fun vs H Q _ => ∃ m p : Nat, vs = [vN m, vN p] ∧ m ≤ 7 ∧ p < 2 ^ m ∧ TabAt P qW H ∧ ∀ l H', But P H H' → TabAt P qW H' → H l = none → H' l = some (.lst ((dueN p).map vN)) → Q (.ref l) H'
noncomputable def UfAt (H : Hp) (s : US) (t : Addr) : Prop := ∃ bp qp, H t = some (.tup [vN s.fx, .ref bp, .ref qp]) ∧ H bp = some (.lst (s.bs.map vN))
noncomputable def UTab (m : Nat) (rs : List RD) (H : Hp) (ts : List Addr) : Prop := ∀ (x : Nat) (t : Addr), ts[x]? = some t → UfAt H (unfF m rs x) t ∧ Good m (unfF m rs x).fx (unfF m rs x).bs
theorem UfAt.same {H H' : Hp} {s : US} {t : Addr} (h : UfAt H s t) (e : Same H H') : UfAt H' s t := let ⟨b, q, h1, h2⟩ := h; ⟨b, q, e _ _ h1, e _ _ h2⟩
theorem UTab.same {m : Nat} {rs : List RD} {H H' : Hp} {ts : List Addr} (h : UTab m rs H ts) (e : Same H H') : UTab m rs H' ts := fun x t ht => ⟨(h x t ht).1.same e, (h x t ht).2⟩
theorem tab_but {P : Addr} {qual : Str} {H H' : Hp} (T : TabAt P qual H) (b : But P H H') {a : Addr} {o : HO} (h : H a = some o) (ho : ∀ ps, o ≠ .tbl ps) : H' a = some o := let ⟨_, h1, _⟩ := T; b _ _ h (ne_of h h1 (ho _))
theorem UfAt.but {P : Addr} {qual : Str} {H H' : Hp} {s : US} {t : Addr} (h : UfAt H s t) (T : TabAt P qual H) (b : But P H H') : UfAt H' s t := let ⟨x, q, h1, h2⟩ := h; ⟨x, q, tab_but T b h1 fun _ z => (nomatch z), tab_but T b h2 fun _ z => (nomatch z)⟩
theorem UTab.but {m : Nat} {rs : List RD} {P : Addr} {qual : Str} {H H' : Hp} {ts : List Addr} (h : UTab m rs H ts) (T : TabAt P qual H) (b : But P H H') : UTab m rs H' ts := fun x t ht => ⟨(h x t ht).1.but T b, (h x t ht).2⟩
theorem RulesAt.butT {P : Addr} {qual : Str} {H H' : Hp} {m : Nat} {rs : List Rl} (h : RulesAt H m rs) (T : TabAt P qual H) (b : But P H H') : RulesAt H' m rs := fun r hr => ⟨tab_but T b (h r hr).1 fun _ z => (nomatch z), (h r hr).2⟩
noncomputable def spTold60 (K : PySem.W.Frag) : Sp := fun vs H Q _ => ∃ (m p x : Nat) (rs : List RD) (t : Addr), vs = [vN p, vN x, .ref t] ∧ m ≤ 7 ∧ p < 2 ^ m ∧ UfAt H (unfF m rs x) t ∧ Good m (unfF m rs x).fx (unfF m rs x).bs ∧ ∀ v H', Same H H' → PairV H' (hitT m rs p x) v → Q v H'
noncomputable def spDue60 (K : PySem.W.Frag) (P : Addr) : Sp := fun vs H Q _ => ∃ (m p : Nat) (rs : List RD) (tl : Addr) (ts : List Addr), vs = [vN m, vN p, .ref tl] ∧ m ≤ 7 ∧ p < 2 ^ m ∧ TabAt P qW H ∧ H tl = some (.lst (ts.map V.ref)) ∧ ts.length = 2 ^ m ∧ UTab m rs H ts ∧ ∀ v H', But P H H' → TabAt P qW H' → PairV H' (twF m rs p) v → Q v H'
noncomputable def spRight60 : Sp := fun vs H Q _ => ∃ (o : Option (Nat × Nat)) (v u : V), vs = [v, u] ∧ PairV H o v ∧ PairV H o u ∧ Q (.bl true) H
noncomputable def spTable60 (K : PySem.W.Frag) : Sp := fun vs H Q _ => ∃ (st : Addr) (ns : List Int) (k : Nat), vs = [.ref st] ∧ STF K H st ns k ∧ k ≤ 1000 ∧ ns.length ≤ 63 ∧
  ∀ (t p : Addr) (m : Nat) (rs : List Rl) (k' : Nat) (H' : Hp), 1 ≤ m → m ≤ 7 → rs.length ≤ 12 → RulesAt H' m rs → H' t = some (.tup [vN m, .ref p]) → H' p = some (.lst (rs.map fun r => V.ref r.r)) → H p = none → p ≠ st → k' ≤ k + 100 → STF K H' st ns k' → But st H H' → Q (.ref t) H'
/-- the blocks' shares of what is not fixed are those of the part -/
theorem free_bits {m fx p : Nat} {bs : List Nat} (G : Good m fx bs) : bitsIn (p - (p &&& fx)) bs = bitsIn p bs := by
  have e : ∀ b ∈ bs, b &&& (p - (p &&& fx)) = b &&& p := fun b hb => by
    refine bits_eq fun k => ?_
    rw [hasb_and, hasb_and, hasb_out]
    refine ⟨fun z => ⟨z.1, z.2.1⟩, fun z => ⟨z.1, z.2, fun f => ?_⟩⟩
    have d := G.dis b hb
    have : HasB (fx &&& b) k := (hasb_and _ _ k).mpr ⟨f, z.1⟩
    rw [d] at this
    exact absurd this (by unfold HasB; rw [Nat.zero_testBit]; exact Bool.false_ne_true)
  unfold bitsIn
  have f : bs.filter (fun b => !decide (b &&& (p - (p &&& fx)) = 0)) = bs.filter (fun b => !decide (b &&& p = 0)) := List.filter_congr fun b hb => by rw [e b hb]
  rw [f]
  exact List.map_congr_left fun b hb => e b ((List.mem_filter.mp hb).1)
end L2

namespace Own
open PySem L2
noncomputable def top (i : Nat) : Stmt := PySem.Challenge.pw_splithouse_k60_told_twice.main.body.getD i (.Pass ⟨0, 0, 0, 0⟩)
section
variable {P : Program} {w : World} {K : PySem.W.Frag} {mg : Str → Option Value} {base : Heap}
seal PySem.wpAny
noncomputable abbrev lamW : Scope := { kind := .function, names := [("_law_one", .cell), ("_law_many", .free), ("len", .globalImplicit), ("range", .globalImplicit)], isGenerator := false, isCoroutine := false, more := [("fast", .str "_law_one"), ("fast", .str "_law_k"), ("fast", .str "_law_many")] }
noncomputable abbrev sWit : Stmt := top 22
theorem scWit : FnScope ["_law_many", "_law_part", "_law_some"] ["_law_many", "_law_part"] (defScope sWit) := ⟨rfl, rfl, rfl, by decide +kernel, rfl, by decide +kernel, by decide +kernel⟩
theorem ok_wit {f fG cc PT : Addr} {fd fdG : FuncData} (F : Fun K "_law_within" "_law_within" sWit f fd) (hcode : fd.code = .ref cc) (CH : PySem.W.CodeHd base cc PT) (hbm : BMod mg base) (GG : FnOk P w K mg base CX0 1 fG fdG ["_law_some", "_law_k"] spHas2) (mG : mg "_law_has" = some (.ref fG)) (kG : PySem.W.keepIn K (.ref fG) = true) (bG : Binds K fdG ["_law_some", "_law_k"] []) (zrange : mg "range" = none) (zlen : mg "len" = none) (zsorted : mg "sorted" = none) : FnOk P w K mg base CX0 5 f fd ["_law_many", "_law_part"] (spWithin60 K PT) := by
  refine F.okT hcode scWit (fun vs H Q E h => ?_) (fun A outer s H vs Q E hr h => ?_)
  · obtain ⟨m, p, rfl, _⟩ := h
    rfl
  · obtain ⟨m, p, rfl, m7, hp, hT, q⟩ := h
    have nd := scWit.nd
    have hr4 : Room 4 _ := hr.mono (by decide)
    have pw7 : 2 ^ m ≤ 2 ^ 7 := Nat.pow_le_pow_right (by decide) m7
    have pw0 : 0 < 2 ^ m := Nat.two_pow_pos m
    refine ⟨_, (pss_cons (ps_comp (i := 2) (xs := ["_law_one"]) (cs ["_law_many", "_law_part", "_law_some"] (defScope sWit) rfl rfl (by decide +kernel)) rfl nd rfl rfl (pi_range1 rfl zrange (pa_cons (pe_op op_shl1 pe_int (pv 0)) pa_nil)) (fun _ _ _ => pg_name (i := 0) (show (["_law_one", "_law_many", "_law_part", "_law_some"] : List Str).Nodup by decide +kernel) rfl (Or.inl rfl)) (fun _ _ _ => (pts_one (pt_cmpR op_eqN (pe_op op_andN (pv 0) (pv 2)) (pv 0) (nomark _)))) (fun _ _ _ => (pv 0)))
      (pss_one (ps_ret (pe_sortKey (K := K) (P := PT) (qual := qW) (x0 := "_law_one") (sc := lamW) (key := keyW) (m := 2) rfl (by rfl) zsorted rfl CH hbm rfl rfl hr.depth (pa_cons (pv 2) pa_nil) (lsc ["_law_many", "_law_part", "_law_some"] (defScope sWit) rfl rfl (by decide +kernel) (fun _ _ => rfl) (fun _ => rfl)) (fun _ _ _ _ _ => rfl) (fun _ _ _ _ => (pe_tup (pa_cons (pe_callB (call_lenK (K := K) rfl) (by rfl) zlen PySem.boot_len (pa_cons (pe_comp (xs := ["_law_k"]) (cs ["_law_one", "_law_many", "_law_part", "_law_some"] lamW rfl rfl (by decide +kernel)) rfl (pi_range1 rfl zrange (pa_cons (pv 1) pa_nil)) (fun _ _ _ => pg_name (i := 0) (show (["_law_k", "_law_one", "_law_many", "_law_part", "_law_some"] : List Str).Nodup by decide +kernel) rfl (Or.inl rfl)) (fun _ _ _ => (pts_one (pt_val (pe_call GG (((hr4.in1).in1).deeper _) rfl mG kG bG .nil pass0 (pa_cons (pv 1) (pa_cons (pv 0) pa_nil)))))) (fun _ _ _ => (pv 0))) pa_nil)) (pa_cons (pv 0) pa_nil)))) (by decide) (fun _ => rfl) (by decide))))), ?_⟩
    refine ⟨_, rfl, m, rfl, rfl, by omega, ((2 ^ m : Nat) : Int), rfl, by omega, by omega, lc_rangeN (k := 2 ^ m) (n := 1) (fun i acc H' => H' = H ∧ acc = ((List.range i).filter fun x => decide (x &&& p = x)).map vN) (by omega) ⟨rfl, rfl⟩ (fun i acc H' hi h => ?_) (fun i acc H' hi h => ?_) (fun acc H' h => ?_)⟩
    · rw [h.2, List.length_map]
      exact Nat.le_trans (List.length_filter_le _ _) (by rw [List.length_range]; exact Nat.le_refl _)
    · obtain ⟨rfl, rfl⟩ := h
      refine ⟨rfl, _, rfl, _, rfl, i, p, rfl, rfl, _, rfl, i &&& p, i, rfl, rfl, _, rfl, ite2 (fun hc => ?_) (fun hc => ?_)⟩
      · refine ⟨_, rfl, rfl, ?_⟩
        rw [filt_succ, if_pos hc, List.map_append]
        rfl
      · refine ⟨rfl, ?_⟩
        rw [filt_succ, if_neg hc, List.append_nil]
    · obtain ⟨rfl, rfl⟩ := h
      intro l hl
      have s1 := Same.new (o := .lst (((List.range (2 ^ m)).filter fun x => decide (x &&& p = x)).map vN)) hl
      have hl1 : (upd H' l (.lst (((List.range (2 ^ m)).filter fun x => decide (x &&& p = x)).map vN))) l = some (.lst (((List.range (2 ^ m)).filter fun x => decide (x &&& p = x)).map vN)) := upd_same
      have hT1 := hT.same s1
      generalize upd H' l (.lst (((List.range (2 ^ m)).filter fun x => decide (x &&& p = x)).map vN)) = H1 at s1 hl1 hT1
      have ll : (((List.range (2 ^ m)).filter fun x => decide (x &&& p = x)).map fun (k : Nat) => (k : Int)).length < 1000 := by
        rw [List.length_map]
        have := List.length_filter_le (fun x => decide (x &&& p = x)) (List.range (2 ^ m))
        rw [List.length_range] at this
        omega
      refine ⟨_, rfl, l, ((List.range (2 ^ m)).filter fun x => decide (x &&& p = x)).map fun (k : Nat) => (k : Int), rfl, by rw [map_int]; exact SqL.of hl1, ll, hT1, fun n hn H2 b2 => ?_, fun l2 H2 ns' b2 t2 n2 h2 pr up => ?_⟩
      · obtain ⟨x, hx, rfl⟩ := List.mem_map.mp hn
        have hx2 : x < 2 ^ m := List.mem_range.mp (List.mem_filter.mp hx).1
        refine ⟨_, rfl, (m : Int), rfl, by omega, by omega, lc_rangeN (k := m) (n := 1) (fun i acc H3 => H3 = H2 ∧ acc = ((List.range i).filter (hasB x)).map vN) (by omega) ⟨rfl, rfl⟩ (fun i acc H3 hi h => ?_) (fun i acc H3 hi h => ?_) (fun acc H3 h => ?_)⟩
        · rw [h.2, List.length_map]
          exact Nat.le_trans (List.length_filter_le _ _) (by rw [List.length_range]; exact Nat.le_refl _)
        · obtain ⟨rfl, rfl⟩ := h
          refine ⟨rfl, _, rfl, _, rfl, x, i, rfl, by omega, _, rfl, ite2 (fun hc => ?_) (fun hc => ?_)⟩
          · refine ⟨_, rfl, rfl, ?_⟩
            rw [filt_succ, if_pos hc, List.map_append]
            rfl
          · refine ⟨rfl, ?_⟩
            rw [filt_succ, if_neg hc, List.append_nil]
        · obtain ⟨rfl, rfl⟩ := h
          intro l3 hl3
          have s3 := Same.new (o := .lst (((List.range m).filter (hasB x)).map vN)) hl3
          have hl4 : (upd H3 l3 (.lst (((List.range m).filter (hasB x)).map vN))) l3 = some (.lst (((List.range m).filter (hasB x)).map vN)) := upd_same
          generalize upd H3 l3 (.lst (((List.range m).filter (hasB x)).map vN)) = H4 at s3 hl4
          refine ⟨l3, _, rfl, .inl (SqL.of hl4), _, rfl, (by show 2 ≤ sizeLine; decide), fun t ht => ?_⟩
          refine ⟨s3.trans (Same.new ht), t, rfl, ?_⟩
          rw [upd_same, List.length_map, many_m m7 hx2]
          rfl
      · rw [within_is m7 hp pr up, map_int] at h2
        refine q l2 H2 (fun b o e n => b2 b o (s1 b o e) n) t2 ?_ h2
        cases z : H' l2 with
        | none => rfl
        | some o => rw [s1 _ _ z] at n2; cases n2
end
end Own

namespace Own
open PySem L2
section
variable {P : Program} {w : World} {K : PySem.W.Frag} {mg : Str → Option Value} {base : Heap}
seal PySem.wpAny
noncomputable abbrev sTold : Stmt := top 23
theorem scTold : FnScope ["_law_part", "_law_some", "_law_told_here", "_law_fixed", "_law_blocks", "_law_steps", "_law_free", "_law_gained", "_law_shares"] ["_law_part", "_law_some", "_law_told_here"] (defScope sTold) := ⟨rfl, rfl, rfl, by decide +kernel, rfl, by decide +kernel, by decide +kernel⟩
theorem ok_told {f : Addr} {fd : FuncData} (F : Fun K "_law_told" "_law_told" sTold f fd) (zlen : mg "len" = none) : FnOk P w K mg base CX0 1 f fd ["_law_part", "_law_some", "_law_told_here"] (spTold60 K) := by
  refine F.ok scTold (fun vs H Q E h => ?_) (fun cdv A outer s H vs Q E hr h => ?_)
  · obtain ⟨m, p, x, rs, t, rfl, _⟩ := h
    rfl
  · obtain ⟨m, p, x, rs, t, rfl, m7, hp, ⟨bp, qp, ht, hb⟩, G, q⟩ := h
    have nd := scTold.nd
    refine ⟨_, (pss_cons (ps_asg (pv 2) (pg_tup rfl (pgs_cons (pg_name (i := 3) nd rfl (Or.inl rfl)) (pgs_cons (pg_name (i := 4) nd rfl (Or.inl rfl)) (pgs_cons (pg_name (i := 5) nd rfl (Or.inl rfl)) pgs_nil)))))
      (pss_cons (ps_set (i := 6) nd rfl (Or.inr rfl) (pe_op op_andInv (pv 0) (pe_un un_inv (pv 3))))
      (pss_cons (ps_set (i := 7) nd rfl (Or.inl rfl) (pe_op op_andInv (pe_op op_andN (pv 0) (pv 3)) (pe_un un_inv (pv 1))))
      (pss_cons (ps_comp (i := 8) (xs := ["_law_block"]) (cs ["_law_part", "_law_some", "_law_told_here", "_law_fixed", "_law_blocks", "_law_steps", "_law_free", "_law_gained", "_law_shares"] (defScope sTold) rfl rfl (by decide +kernel)) rfl nd rfl rfl (pi_listK (K := K) rfl (pv 4)) (fun _ _ _ => pg_name (i := 0) (show (["_law_block", "_law_part", "_law_some", "_law_told_here", "_law_fixed", "_law_blocks", "_law_steps", "_law_free", "_law_gained", "_law_shares"] : List Str).Nodup by decide +kernel) rfl (Or.inl rfl)) (fun _ _ _ => (pts_one (pt_cmpR op_gtN (pe_op op_andN (pv 0) (pv 7)) pe_int (nomark _)))) (fun _ _ _ => (pe_op op_andN (pv 0) (pv 7))))
      (pss_cons (ps_if (PW.pt (pw_or (pt_cmpR op_eqN (pv 6) pe_int (nomark _)) (pw_or1 (PW.pt (pw_and (pt_cmpR op_eqN (pv 7) pe_int (nomark _)) (pw_and1 (pt_cmpR op_ltN (pe_callB (call_lenK (K := K) rfl) (by rfl) zlen PySem.boot_len (pa_cons (pv 8) pa_nil)) pe_int (nomark _)))))))) (pss_one (ps_ret pe_non)) pss_nil)
      (pss_cons (ps_if (pt_cmpR op_gtN (pv 7) pe_int (nomark _)) (pss_one (ps_ret (pe_tup (pa_cons (pv 1) (pa_cons (pv 7) pa_nil))))) pss_nil)
      (pss_one (ps_ret (pe_tup (pa_cons (pv 1) (pa_cons (pe_ix (ix_listK (K := K) rfl) (pv 8) pe_int (fun _ _ => rfl)) pa_nil))))))))))), ?_⟩
    have ea : againN m rs p x = if p &&& (unfF m rs x).fx = p then none else if (p &&& (unfF m rs x).fx) - ((p &&& (unfF m rs x).fx) &&& x) ≠ 0 then some ((p &&& (unfF m rs x).fx) - ((p &&& (unfF m rs x).fx) &&& x)) else if 1 < (bitsIn p (unfF m rs x).bs).length then (bitsIn p (unfF m rs x).bs).head? else none := rfl
    have ef := free_bits (p := p) G
    have bl := G.len m7
    have q' : ∀ v H', Same H H' → PairV H' ((againN m rs p x).map fun g => (x, g)) v → Q v H' := q
    clear q
    generalize unfF m rs x = u at ea ef G ht hb bl
    rw [ea] at q'
    clear ea
    refine ⟨_, rfl, t, _, rfl, SqT.of ht, rfl, _, _, rfl, _, _, rfl, _, _, rfl, rfl, ?_⟩
    refine ⟨_, rfl, _, rfl, (u.fx : Int), rfl, p, u.fx, rfl, rfl, ?_⟩
    refine ⟨_, rfl, _, rfl, p, u.fx, rfl, rfl, _, rfl, (x : Int), rfl, p &&& u.fx, x, rfl, rfl, ?_⟩
    generalize eF : p - (p &&& u.fx) = fr at ef ⊢
    generalize eG : (p &&& u.fx) - ((p &&& u.fx) &&& x) = g at q' ⊢
    refine ⟨_, rfl, bp, rfl, ⟨_, SqL.of hb⟩, lc_list (K := K) (xs := u.bs.map vN) (fun k acc H3 => H3 = H ∧ acc = (bitsIn fr (u.bs.take k)).map vN) (by rw [List.length_map]; omega) ⟨rfl, rfl⟩ (fun k acc H3 hk h => ?_) (fun k u' acc H3 hu h => ?_) (fun acc H3 h => ?_)⟩
    · obtain ⟨rfl, rfl⟩ := h
      exact ⟨SqL.of hb, by rw [List.length_map]; exact bitsIn_len fr _ k⟩
    · obtain ⟨rfl, rfl⟩ := h
      rw [List.getElem?_map] at hu
      cases eb : u.bs[k]? with
      | none => rw [eb] at hu; cases hu
      | some b =>
        rw [eb] at hu
        obtain rfl := (Option.some.inj hu).symm
        refine ⟨rfl, _, rfl, _, rfl, b, fr, rfl, rfl, b &&& fr, 0, rfl, rfl, _, rfl, ite2 (fun hd => ?_) (fun hd => ?_)⟩
        · have z : ¬ b &&& fr = 0 := fun z => by have := of_decide_eq_true hd; omega
          refine ⟨_, rfl, _, rfl, b, fr, rfl, rfl, rfl, ?_⟩
          rw [bitsIn_succ eb, if_neg z, List.map_append]; rfl
        · have z : b &&& fr = 0 := Classical.byContradiction fun z => hd (decide_eq_true (Nat.pos_of_ne_zero z))
          refine ⟨rfl, ?_⟩
          rw [bitsIn_succ eb, if_pos z, List.append_nil]
    · obtain ⟨rfl, rfl⟩ := h
      rw [List.length_map, List.take_length, ef]
      intro lp hlp
      have sL := Same.new (o := .lst ((bitsIn p u.bs).map vN)) hlp
      have hlp' : (upd H3 lp (.lst ((bitsIn p u.bs).map vN))) lp = some (.lst ((bitsIn p u.bs).map vN)) := upd_same
      generalize upd H3 lp (.lst ((bitsIn p u.bs).map vN)) = H4 at sL hlp'
      have le1 : p &&& u.fx ≤ p := Nat.and_le_left
      refine ⟨_, rfl, fr, 0, rfl, rfl, _, rfl, ite2 (fun h0 => iteT ?_) (fun h0 => ?_)⟩
      · have z := of_decide_eq_true h0
        have := q' .non H4 sL
        rw [if_pos (by omega)] at this
        exact this rfl
      have n0 : ¬ p &&& u.fx = p := fun z => h0 (decide_eq_true (by omega))
      rw [if_neg n0] at q'
      refine ⟨_, rfl, g, 0, rfl, rfl, _, rfl, ite2 (fun h1 => ?_) (fun h1 => ?_)⟩
      · have g0 := of_decide_eq_true h1
        subst g0
        rw [if_neg (fun z => z rfl)] at q'
        refine ⟨_, rfl, lp, _, rfl, .inl (SqL.of hlp'), ((bitsIn p u.bs).map vN).length, 2, rfl, rfl, _, rfl, ite2 (fun h2 => ?_) (fun h2 => ?_)⟩
        · have z := of_decide_eq_true h2
          rw [List.length_map] at z
          have := q' .non H4 sL
          rw [if_neg (by omega)] at this
          exact this rfl
        have z : 1 < (bitsIn p u.bs).length := Nat.le_of_not_lt fun z => h2 (decide_eq_true (by rw [List.length_map]; exact z))
        rw [if_pos z] at q'
        refine ⟨_, rfl, 0, 0, rfl, rfl, _, rfl, ite2 (fun h3 => absurd (of_decide_eq_true h3) (by omega)) (fun _ => ?_)⟩
        revert hlp' q' z
        match bitsIn p u.bs with
        | [] => intro _ _ h; exact absurd h (by decide)
        | b :: r =>
          intro hlp' q' _
          refine ⟨_, rfl, _, rfl, lp, _, _, _, rfl, rfl, SqL.of hlp', atI_nat (j := 0) rfl, (by show 2 ≤ sizeLine; decide), fun t2 ht2 => ?_⟩
          exact q' _ _ (sL.trans (Same.new ht2)) ⟨t2, rfl, upd_same⟩
      · have g0 : g ≠ 0 := fun z => h1 (decide_eq_true z)
        rw [if_pos g0] at q'
        refine iteF ?_
        refine ⟨_, rfl, g, 0, rfl, rfl, _, rfl, ite2 (fun _ => ?_) (fun h3 => absurd (decide_eq_true (Nat.pos_of_ne_zero g0)) h3)⟩
        refine ⟨_, rfl, _, rfl, (by show 2 ≤ sizeLine; decide), fun t2 ht2 => ?_⟩
        exact q' _ _ (sL.trans (Same.new ht2)) ⟨t2, rfl, upd_same⟩
end
end Own

namespace Own
open PySem L2
section
variable {P : Program} {w : World} {K : PySem.W.Frag} {mg : Str → Option Value} {base : Heap}
seal PySem.wpAny
noncomputable abbrev sDue : Stmt := top 24
theorem scDue : FnScope ["_law_many", "_law_part", "_law_table_here", "_law_some", "_law_due_here"] ["_law_many", "_law_part", "_law_table_here"] (defScope sDue) := ⟨rfl, rfl, rfl, by decide +kernel, rfl, by decide +kernel, by decide +kernel⟩
theorem ok_due {f fWI fTO PT : Addr} {fd fdWI fdTO : FuncData} (F : Fun K "_law_due" "_law_due" sDue f fd) (GWI : FnOk P w K mg base CX0 5 fWI fdWI ["_law_many", "_law_part"] (spWithin60 K PT)) (mWI : mg "_law_within" = some (.ref fWI)) (kWI : PySem.W.keepIn K (.ref fWI) = true) (bWI : Binds K fdWI ["_law_many", "_law_part"] []) (GTO : FnOk P w K mg base CX0 1 fTO fdTO ["_law_part", "_law_some", "_law_told_here"] (spTold60 K)) (mTO : mg "_law_told" = some (.ref fTO)) (kTO : PySem.W.keepIn K (.ref fTO) = true) (bTO : Binds K fdTO ["_law_part", "_law_some", "_law_told_here"] []) : FnOk P w K mg base CX0 6 f fd ["_law_many", "_law_part", "_law_table_here"] (spDue60 K PT) := by
  refine F.ok scDue (fun vs H Q E h => ?_) (fun cdv A outer s H vs Q E hr h => ?_)
  · obtain ⟨m, p, rs, tl, ts, rfl, _⟩ := h
    rfl
  · obtain ⟨m, p, rs, tl, ts, rfl, m7, hp, hT, htl, lt, hU, q⟩ := h
    have nd := scDue.nd
    have hr1 : Room 1 _ := hr.mono (by decide)
    have hr5 : Room 5 _ := hr.mono (by decide)
    have p7 := pow7 m7
    refine ⟨_, (pss_cons (ps_for PassesOwn.never rfl (pi_listK (K := K) rfl (pe_call GWI hr5 rfl mWI kWI bWI .nil pass0 (pa_cons (pv 0) (pa_cons (pv 1) pa_nil)))) (pg_name (i := 3) nd rfl (Or.inl rfl)) (pss_cons (ps_set (i := 4) nd rfl (Or.inl rfl) (pe_call GTO hr1 rfl mTO kTO bTO .nil pass0 (pa_cons (pv 1) (pa_cons (pv 3) (pa_cons (pe_ix (ix_listK (K := K) rfl) (pv 2) (pv 3) (fun _ _ => rfl)) pa_nil)))))
      (pss_one (ps_if (pt_cmpR op_notN (pv 4) pe_non (nomark _)) (pss_one (ps_ret (pv 4))) pss_nil))))
      (pss_one (ps_ret pe_non))), ?_⟩
    refine ⟨_, rfl, _, rfl, m, p, rfl, m7, hp, hT, fun l H1 b1 t1 hl0 hl => ?_⟩
    have htl1 := tab_but hT b1 htl fun _ z => (nomatch z)
    have hU1 := hU.but hT b1
    have dl := (due_len p (by omega)).2
    refine ⟨l, rfl, ⟨_, SqL.of hl⟩, for_list (xs := (dueN p).map vN) (fun k σ H' => Same H1 H' ∧ ∃ v3 v4, σ = [some (vN m), some (vN p), some (.ref tl), v3, v4] ∧ ((dueN p).take k).findSome? (hitT m rs p) = none) ⟨Same.refl _, none, none, rfl, rfl⟩ (fun k σ H' _ h => SqL.of (h.1 _ _ hl)) (fun k u σ H' hu h => ?_) (fun σ H' h => ?_)⟩
    · obtain ⟨s2, v3, v4, rfl, fs⟩ := h
      rw [List.getElem?_map] at hu
      cases ex : (dueN p)[k]? with
      | none => rw [ex] at hu; cases hu
      | some x =>
        rw [ex] at hu
        obtain rfl := (Option.some.inj hu).symm
        have xp := due_sub (List.mem_of_getElem? ex)
        have hx : x < 2 ^ m := Nat.lt_of_le_of_lt (by rw [← xp]; exact Nat.and_le_right) hp
        obtain ⟨t, et⟩ : ∃ t, ts[x]? = some t := ⟨_, List.getElem?_eq_getElem (by omega)⟩
        obtain ⟨ua, ug⟩ := hU1 x t et
        have e1 : ((dueN p).take (k + 1)).findSome? (hitT m rs p) = hitT m rs p x := by
          rw [List.take_add_one, ex, List.findSome?_append, fs]
          show Option.or none ([x].findSome? (hitT m rs p)) = _
          rw [Option.none_or, List.findSome?_cons]
          cases hitT m rs p x <;> rfl
        refine ⟨_, rfl, _, rfl, _, rfl, _, rfl, tl, _, _, _, rfl, rfl, SqL.of (s2 _ _ htl1), atI_nat (j := x) (by rw [List.getElem?_map, et]; rfl), m, p, x, rs, t, rfl, m7, hp, ua.same s2, ug, fun v H3 s3 hv => ?_⟩
        cases eh : hitT m rs p x with
        | none =>
          rw [eh] at hv
          obtain rfl : v = .non := hv
          refine ⟨_, rfl, rfl, _, rfl, iteF ?_⟩
          exact ⟨s2.trans s3, _, _, rfl, by rw [e1, eh]⟩
        | some u =>
          rw [eh] at hv
          obtain ⟨a, rfl, ha⟩ := hv
          refine ⟨_, rfl, rfl, _, rfl, iteT ?_⟩
          refine ⟨_, rfl, q _ H3 (fun b o e n => (s2.trans s3) _ _ (b1 b o e n)) (t1.same (s2.trans s3)) ?_⟩
          have : twF m rs p = some u := by
            unfold twF
            have e2 : (dueN p) = (dueN p).take (k + 1) ++ (dueN p).drop (k + 1) := (List.take_append_drop _ _).symm
            rw [e2, List.findSome?_append, e1, eh]
            rfl
          rw [this]
          exact ⟨a, rfl, ha⟩
    · obtain ⟨s2, v3, v4, rfl, fs⟩ := h
      rw [List.length_map, List.take_length] at fs
      have : twF m rs p = none := fs
      refine q .non H' (fun b o e n => s2 _ _ (b1 b o e n)) (t1.same s2) ?_
      rw [this]
      rfl
end
end Own

namespace Own
open PySem L2
section
variable {P : Program} {w : World} {K : PySem.W.Frag} {mg : Str → Option Value} {base : Heap}
seal PySem.wpAny
noncomputable abbrev sRight : Stmt := top 25
theorem scRight : FnScope ["_law_found", "_law_due_here"] ["_law_found", "_law_due_here"] (defScope sRight) := ⟨rfl, rfl, rfl, by decide +kernel, rfl, by decide +kernel, by decide +kernel⟩
theorem ok_right {f : Addr} {fd : FuncData} (F : Fun K "_law_right" "_law_right" sRight f fd) (zisinstance : mg "isinstance" = none) (ztuple : mg "tuple" = none) (zlen : mg "len" = none) (zbool : mg "bool" = none) : FnOk P w K mg base CX0 1 f fd ["_law_found", "_law_due_here"] spRight60 := by
  refine F.ok scRight (fun vs H Q E h => ?_) (fun cdv A outer s H vs Q E hr h => ?_)
  · obtain ⟨o, v, u, rfl, _⟩ := h
    rfl
  · obtain ⟨o, v, u, rfl, h1, h2, q⟩ := h
    refine ⟨_, (pss_cons (ps_if (pt_cmpR op_isN (pv 1) pe_non (nomark _)) (pss_one (ps_ret (pe_cmpR op_isN (pv 0) pe_non (nomark _)))) pss_nil)
      (pss_cons (ps_if (PW.pt (pw_or (pt_not (pt_val (pe_callB (call_isK (K := K) rfl) (by rfl) zisinstance PyProof.Rows.boot_isinstance (pa_cons (pv 0) (pa_cons (pe_bltn (v := .ty "tuple") rfl ztuple PyProof.Rows.boot_tuple rfl) pa_nil))))) (pw_or (pt_cmpR op_neN (pe_callB (call_lenK (K := K) rfl) (by rfl) zlen PySem.boot_len (pa_cons (pv 0) pa_nil)) pe_int (nomark _)) (pw_or1 (pt_cmpR (op_neD (K := K) rfl hr.units) (pv 0) (pv 1) (nomark _)))))) (pss_one (ps_ret pe_bl)) pss_nil)
      (pss_one (ps_ret (pe_and (pe_not (pe_callB (call_isK (K := K) rfl) (by rfl) zisinstance PyProof.Rows.boot_isinstance (pa_cons (pe_ix (ix_tupK (K := K) rfl) (pv 0) pe_int (fun _ _ => rfl)) (pa_cons (pe_bltn (v := .ty "bool") rfl zbool PyProof.Rows.boot_bool rfl) pa_nil)))) (pe_one (pe_not (pe_callB (call_isK (K := K) rfl) (by rfl) zisinstance PyProof.Rows.boot_isinstance (pa_cons (pe_ix (ix_tupK (K := K) rfl) (pv 0) pe_int (fun _ _ => rfl)) (pa_cons (pe_bltn (v := .ty "bool") rfl zbool PyProof.Rows.boot_bool rfl) pa_nil)))))))))), ?_⟩
    cases o with
    | none =>
      obtain rfl : v = .non := h1
      obtain rfl : u = .non := h2
      refine ⟨_, rfl, rfl, _, rfl, iteT ?_⟩
      exact ⟨_, rfl, rfl, q⟩
    | some r =>
      obtain ⟨a, rfl, ha⟩ := h1
      obtain ⟨b, rfl, hb⟩ := h2
      refine ⟨_, rfl, rfl, _, rfl, iteF ?_⟩
      have dv : ∀ t : Addr, H t = some (.tup [vN r.1, vN r.2]) → DV K H (.ref t) (dP ((r.1 : Int), (r.2 : Int))) := fun t ht => .tup (SqT.of ht) (.cons (.int _) (.cons (.int _) .nil))
      refine ⟨_, rfl, _, _, _, true, rfl, .tup ha, rfl, _, rfl, iteF ?_⟩
      refine ⟨_, rfl, a, _, rfl, .inr (SqT.of ha), 2, 2, rfl, rfl, _, rfl, iteF ?_⟩
      refine ⟨_, rfl, _, rfl, dP ((r.1 : Int), (r.2 : Int)), dP ((r.1 : Int), (r.2 : Int)), dv a ha, dv b hb, shaped_dP _, shaped_dP _, noMix_dP _ _, _, rfl, ?_⟩
      rw [if_pos rfl, same_dP, decide_eq_true rfl]
      refine iteF ?_
      refine ⟨_, rfl, a, _, _, _, rfl, rfl, SqT.of ha, atI_nat (j := 0) rfl, _, _, _, false, rfl, .int _, rfl, _, rfl, ?_⟩
      refine ⟨_, rfl, iteT ?_⟩
      exact ⟨_, rfl, a, _, _, _, rfl, rfl, SqT.of ha, atI_nat (j := 1) rfl, _, _, _, false, rfl, .int _, rfl, _, rfl, q⟩
end
end Own

namespace Own
open PySem L2
section
variable {P : Program} {w : World} {K : PySem.W.Frag} {mg : Str → Option Value} {base : Heap}
seal PySem.wpAny
theorem tabF {K : PySem.W.Frag} {H H' : Hp} {st PT : Addr} {ns : List Int} {k : Nat} {qu : Str} (S : STF K H st ns k) (T : TabAt PT qu H) (B : But st H H') : TabAt PT qu H' := let ⟨_, h, _⟩ := S; T.but B fun o e => by rw [h] at e; cases e; exact ⟨fun _ z => (nomatch z), fun _ z => (nomatch z)⟩
noncomputable def spLawT (K : PySem.W.Frag) (ts : List Addr) : Sp := fun vs H Q _ => ∃ (a : Addr) (ns : List Int), vs = [.ref a] ∧ SqF K H a ns ∧ ns.length ≤ 63 ∧ (∀ P ∈ ts, H P = some (.tbl #[])) ∧ ∀ H', Q (.bl true) H'
noncomputable abbrev sLaw : Stmt := top 26
theorem scLaw : FnScope ["_law_script", "_law_state", "_law_many", "_law_rules_here", "_law_handed", "_law_table_here", "_law_part", "_law_due_here", "_law_again"] ["_law_script"] (defScope sLaw) := ⟨rfl, rfl, rfl, by decide +kernel, rfl, by decide +kernel, by decide +kernel⟩

theorem ok_law {f fTB fUN fS fDU fRI fTW PT : Addr} {fd fdTB fdUN fdS fdDU fdRI fdTW : FuncData} (F : Fun K "law" "law" sLaw f fd) (GTB : FnOk P w K mg base CX0 4 fTB fdTB ["_law_state"] (spTable60 K)) (mTB : mg "_law_table" = some (.ref fTB)) (kTB : PySem.W.keepIn K (.ref fTB) = true) (bTB : Binds K fdTB ["_law_state"] []) (GUN : FnOk P w K mg base CX0 3 fUN fdUN ["many", "rules", "some"] (spUnfolded K)) (mUN : mg "unfolded" = some (.ref fUN)) (kUN : PySem.W.keepIn K (.ref fUN) = true) (bUN : Binds K fdUN ["many", "rules", "some"] []) (GS : FnOk P w K mg base CX0 2 fS fdS ["_law_state", "_law_many"] (spSetF K)) (mS : mg "_law_set" = some (.ref fS)) (kS : PySem.W.keepIn K (.ref fS) = true) (bS : Binds K fdS ["_law_state", "_law_many"] []) (GDU : FnOk P w K mg base CX0 6 fDU fdDU ["_law_many", "_law_part", "_law_table_here"] (spDue60 K PT)) (mDU : mg "_law_due" = some (.ref fDU)) (kDU : PySem.W.keepIn K (.ref fDU) = true) (bDU : Binds K fdDU ["_law_many", "_law_part", "_law_table_here"] []) (GRI : FnOk P w K mg base CX0 1 fRI fdRI ["_law_found", "_law_due_here"] spRight60) (mRI : mg "_law_right" = some (.ref fRI)) (kRI : PySem.W.keepIn K (.ref fRI) = true) (bRI : Binds K fdRI ["_law_found", "_law_due_here"] []) (GTW : FnOk P w K mg base CX0 5 fTW fdTW ["many", "rules", "part"] (spTwice K)) (mTW : mg "twice" = some (.ref fTW)) (kTW : PySem.W.keepIn K (.ref fTW) = true) (bTW : Binds K fdTW ["many", "rules", "part"] []) (zlist : mg "list" = none) (zrange : mg "range" = none) (zint : mg "int" = none) : FnOk P w K mg base CX0 7 f fd ["_law_script"] (spLawT K [PT]) := by
  refine F.ok scLaw (fun vs H Q E h => ?_) (fun cdv A outer s H vs Q E hr h => ?_)
  · obtain ⟨a, ns, rfl, _⟩ := h
    rfl
  · obtain ⟨a, ns, rfl, hS, hlen, hT, q⟩ := h
    have hT := TabAt.nil (qual := qW) (hT PT (List.mem_singleton.mpr rfl))
    have nd := scLaw.nd
    have hr1 : Room 1 _ := hr.mono (by decide)
    have hr2 : Room 2 _ := hr.mono (by decide)
    have hr3 : Room 3 _ := hr.mono (by decide)
    have hr4 : Room 4 _ := hr.mono (by decide)
    have hr5 : Room 5 _ := hr.mono (by decide)
    refine ⟨_, (pss_cons (ps_set (i := 1) nd rfl (Or.inr rfl) (pe_lst (pa_cons (pv 0) (pa_cons pe_int pa_nil))))
      (pss_cons (ps_asg (pe_call GTB hr4 rfl mTB kTB bTB .nil pass0 (pa_cons (pv 1) pa_nil)) (pg_tup rfl (pgs_cons (pg_name (i := 2) nd rfl (Or.inr rfl)) (pgs_cons (pg_name (i := 3) nd rfl (Or.inr rfl)) pgs_nil))))
      (pss_cons (ps_set (i := 4) nd rfl (Or.inl rfl) (pe_callTy (call_listK (K := K) rfl) (by rfl) zlist PyProof.Rows.boot_list (pa_cons (pv 3) pa_nil)))
      (pss_cons (ps_comp (i := 5) (xs := ["_law_some"]) (cs ["_law_script", "_law_state", "_law_many", "_law_rules_here", "_law_handed", "_law_table_here", "_law_part", "_law_due_here", "_law_again"] (defScope sLaw) rfl rfl (by decide +kernel)) rfl nd rfl rfl (pi_range1 rfl zrange (pa_cons (pe_op op_shl1 pe_int (pv 2)) pa_nil)) (fun _ _ _ => pg_name (i := 0) (show (["_law_some", "_law_script", "_law_state", "_law_many", "_law_rules_here", "_law_handed", "_law_table_here", "_law_part", "_law_due_here", "_law_again"] : List Str).Nodup by decide +kernel) rfl (Or.inl rfl)) (fun _ _ _ => pts_nil) (fun _ _ _ => (pe_call GUN hr3 rfl mUN kUN bUN .nil pass0 (pa_cons (pv 3) (pa_cons (pe_callTy (call_listK (K := K) rfl) (by rfl) zlist PyProof.Rows.boot_list (pa_cons (pv 4) pa_nil)) (pa_cons (pv 0) pa_nil))))))
      (pss_cons (ps_for PassesOwn.never rfl (pi_listK (K := K) rfl (pe_op op_cat (pe_lst (pa_cons (pe_op op_subN (pe_op op_shl1 pe_int (pv 2)) pe_int) pa_nil)) (pe_comp (xs := ["_law_k"]) (cs ["_law_script", "_law_state", "_law_many", "_law_rules_here", "_law_handed", "_law_table_here", "_law_part", "_law_due_here", "_law_again"] (defScope sLaw) rfl rfl (by decide +kernel)) rfl (pi_range1 rfl zrange (pa_cons pe_int pa_nil)) (fun _ _ _ => pg_name (i := 0) (show (["_law_k", "_law_script", "_law_state", "_law_many", "_law_rules_here", "_law_handed", "_law_table_here", "_law_part", "_law_due_here", "_law_again"] : List Str).Nodup by decide +kernel) rfl (Or.inl rfl)) (fun _ _ _ => pts_nil) (fun _ _ _ => (pe_call GS hr2 rfl mS kS bS .nil pass0 (pa_cons (pv 2) (pa_cons (pv 3) pa_nil))))))) (pg_name (i := 6) nd rfl (Or.inl rfl)) (pss_cons (ps_set (i := 7) nd rfl (Or.inl rfl) (pe_call GDU hr rfl mDU kDU bDU .nil pass0 (pa_cons (pv 2) (pa_cons (pv 6) (pa_cons (pv 5) pa_nil)))))
      (pss_one (ps_for PassesOwn.never rfl (pi_range1 rfl zrange (pa_cons (pe_op op_addN pe_int (pe_callTy call_int1 (by rfl) zint PyProof.Rows.boot_int (pa_cons (pe_cmpR op_ltN (pv 2) pe_int (nomark _)) pa_nil))) pa_nil)) (pg_name (i := 8) nd rfl (Or.inl rfl)) (pss_one (ps_if (PW.pt (pw_or (pt_not (pt_val (pe_call GRI hr1 rfl mRI kRI bRI .nil pass0 (pa_cons (pe_call GTW hr5 rfl mTW kTW bTW .nil pass0 (pa_cons (pv 2) (pa_cons (pv 4) (pa_cons (pv 6) pa_nil)))) (pa_cons (pv 7) pa_nil))))) (pw_or1 (pt_cmpR (op_neD (K := K) rfl hr.units) (pv 4) (pv 3) (nomark _))))) (pss_one (ps_ret pe_bl)) pss_nil))))))
      (pss_one (ps_ret pe_bl))))))), ?_⟩
    refine ⟨_, rfl, (by show 2 ≤ sizeLine; decide), fun st hst => ?_⟩
    have S0 := STF.start hS hst
    have T0 := hT.same (Same.new (o := .lst [.ref a, .int 0]) hst)
    generalize upd H st (.lst [.ref a, .int 0]) = H0 at S0 T0
    refine ⟨_, rfl, st, ns, 0, rfl, S0, by omega, hlen, fun t rp m rs k1 H1 m1 m7 lrs hRs ht hrp hrp0 nrp hk1 S1 B1 => ?_⟩
    have T1 := tabF S0 T0 B1
    refine ⟨t, _, rfl, SqT.of ht, rfl, _, _, rfl, _, _, rfl, rfl, ?_⟩
    refine ⟨_, rfl, rp, _, rfl, .inl (SqL.of hrp), fun hd hhd => ?_⟩
    have s2 := Same.new (o := .lst (rs.map fun (r : Rl) => V.ref r.r)) hhd
    have hhd2 : (upd H1 hd (.lst (rs.map fun (r : Rl) => V.ref r.r))) hd = some (.lst (rs.map fun (r : Rl) => V.ref r.r)) := upd_same
    have nhd : hd ≠ st := (stf_fresh S1 (But.refl _ _) hhd).2
    have S2 := S1.same s2
    have hrp2 := s2 _ _ hrp
    have hRs2 := hRs.same s2
    have T2 := T1.same s2
    generalize upd H1 hd (.lst (rs.map fun (r : Rl) => V.ref r.r)) = H2 at hhd2 S2 hrp2 hRs2 T2
    have pw0 : 0 < 2 ^ m := Nat.two_pow_pos m
    have p7 := pow7 m7
    refine ⟨_, rfl, m, rfl, rfl, by omega, ((2 ^ m : Nat) : Int), rfl, by omega, by omega, lc_rangeN (k := 2 ^ m) (n := 1) (fun i acc H' => Same H2 H' ∧ ∃ ts : List Addr, acc = ts.map V.ref ∧ ts.length = i ∧ UTab m (rs.map Rl.d) H' ts) (by omega) ⟨Same.refl _, [], rfl, rfl, (fun x t h => by cases h)⟩ (fun i acc H' hi h => ?_) (fun i acc H' hi h => ?_) (fun acc H3 h => ?_)⟩
    · obtain ⟨_, ts, rfl, e, _⟩ := h
      rw [List.length_map, e]; exact Nat.le_refl _
    · obtain ⟨s3, ts, rfl, e, U3⟩ := h
      refine ⟨rfl, _, rfl, _, rfl, rp, _, rfl, .inl (SqL.of (s3 _ _ hrp2)), fun l hl => ?_⟩
      have s4 := Same.new (o := .lst (rs.map fun (r : Rl) => V.ref r.r)) hl
      refine ⟨_, rfl, m, i, l, rs, rfl, m7, hi, SqL.of upd_same, (hRs2.same s3).same s4, by omega, fun t2 bp qa u sw H4 R s5 ht2 ht2' hbp hbp' hq hq' st1 e1 l1 n1 => ?_⟩
      refine ⟨(s3.trans s4).trans s5, ts ++ [t2], by rw [List.map_append]; rfl, by rw [List.length_append, e]; rfl, fun x t' hx => ?_⟩
      by_cases hx' : x < i
      · rw [List.getElem?_append_left (by omega)] at hx
        exact (U3.same (s4.trans s5)) x t' hx
      · have hx2 : x < (ts ++ [t2]).length := (List.getElem?_eq_some_iff.mp hx).1
        rw [List.length_append] at hx2
        have : x = i := by have : [t2].length = 1 := rfl; omega
        subst this
        rw [List.getElem?_append_right (by omega), e, Nat.sub_self] at hx
        obtain rfl : t2 = t' := Option.some.inj hx
        rw [R.unfF]
        exact ⟨⟨bp, qa, ht2', hbp'⟩, (R.good (Good.begin hi)).1⟩
    obtain ⟨s3, ts, rfl, lts, U3⟩ := h
    intro tl htl0
    have s4 := Same.new (o := .lst (ts.map V.ref)) htl0
    have htl : (upd H3 tl (.lst (ts.map V.ref))) tl = some (.lst (ts.map V.ref)) := upd_same
    have s34 := s3.trans s4
    have U4 := U3.same s4
    have ntl : tl ≠ st := (stf_fresh (S2.same s3) (But.refl _ _) htl0).2
    have S4 := S2.same s34
    have hrp4 := s34 _ _ hrp2
    have hhd4 := s34 _ _ hhd2
    have hRs4 := hRs2.same s34
    have T4 := T2.same s34
    generalize upd H3 tl (.lst (ts.map V.ref)) = H4 at htl U4 S4 hrp4 hhd4 hRs4 T4
    clear s34 s4 U3 s3 S2 hrp2 hhd2 hRs2 T2 s2 htl0
    refine ⟨_, rfl, m, rfl, rfl, by omega, 2 ^ m, 1, rfl, rfl, pw0, (by show 1 ≤ sizeLine; decide), fun l1 hl1 => ?_⟩
    have s5 := Same.new (o := .lst [vN (2 ^ m - 1)]) hl1
    have hl1' : (upd H4 l1 (.lst [vN (2 ^ m - 1)])) l1 = some (.lst [vN (2 ^ m - 1)]) := upd_same
    have nl1 : l1 ≠ st := (stf_fresh S4 (But.refl _ _) hl1).2
    have S5 := S4.same s5
    have hrp5 := s5 _ _ hrp4
    have hhd5 := s5 _ _ hhd4
    have htl5 := s5 _ _ htl
    have hRs5 := hRs4.same s5
    have U5 := U4.same s5
    have T5 := T4.same s5
    generalize upd H4 l1 (.lst [vN (2 ^ m - 1)]) = H5 at hl1' S5 hrp5 hhd5 htl5 hRs5 U5 T5
    clear s5 S4 hrp4 hhd4 htl hRs4 U4 T4
    refine ⟨(3 : Int), rfl, by decide, by decide, lc_rangeN (k := 3) (n := 1) (fun i acc H' => ∃ (k : Nat) (xs : List Nat), k ≤ k1 + 3 * i ∧ STF K H' st ns k ∧ But st H5 H' ∧ acc = xs.map vN ∧ xs.length = i ∧ ∀ x ∈ xs, x < 2 ^ m) (by omega) ⟨k1, [], by omega, S5, But.refl _ _, rfl, rfl, (fun _ h => by cases h)⟩ (fun i acc H' hi h => ?_) (fun i acc H' hi h => ?_) (fun acc H6 h => ?_)⟩
    · obtain ⟨_, xs, _, _, _, rfl, e, _⟩ := h
      rw [List.length_map, e]; exact Nat.le_refl _
    · obtain ⟨k, xs, hk, S6, B6, rfl, e, hx⟩ := h
      refine ⟨rfl, _, rfl, _, rfl, st, ns, k, m, rfl, S6, by omega, hlen, m1, m7, fun r k' H7 hr' hk' S7 B7 => ?_⟩
      refine ⟨k', xs ++ [r], by omega, S7, B6.trans B7, by rw [List.map_append]; rfl, by rw [List.length_append, e]; rfl, fun x hx' => ?_⟩
      rcases List.mem_append.mp hx' with z | z
      · exact hx x z
      · rw [List.mem_singleton.mp z]; exact hr'
    obtain ⟨k6, xs, _, S6, B6, rfl, lxs, hxs⟩ := h
    intro l2 hl2
    have s7 := Same.new (o := .lst (xs.map vN)) hl2
    have hl2' : (upd H6 l2 (.lst (xs.map vN))) l2 = some (.lst (xs.map vN)) := upd_same
    have b7 := B6.trans s7.but
    have hl7 := s7 _ _ (B6 _ _ hl1' nl1)
    have hrp7 := s7 _ _ (B6 _ _ hrp5 nrp)
    have hhd7 := s7 _ _ (B6 _ _ hhd5 nhd)
    have htl7 := s7 _ _ (B6 _ _ htl5 ntl)
    have hRs7 : RulesAt _ m rs := RulesAt.same (fun r hr' => ⟨stf_tup S5 B6 (hRs5 r hr').1, (hRs5 r hr').2⟩) s7
    have T7 := (tabF S5 T5 B6).same s7
    have U7 : UTab m (rs.map Rl.d) (upd H6 l2 (.lst (xs.map vN))) ts := UTab.same (fun x t' hx => by
      obtain ⟨⟨bp, qp, h1, h2⟩, g⟩ := U5 x t' hx
      refine ⟨⟨bp, qp, stf_tup S5 B6 h1, B6 _ _ h2 fun z => ?_⟩, g⟩
      obtain ⟨sc, e, _⟩ := S5
      rw [z, e] at h2
      have h3 := (HO.lst.inj (Option.some.inj h2))
      revert h3
      cases (unfF m (rs.map Rl.d) x).bs with
      | nil => intro h; cases h
      | cons b r => intro h; cases h) s7
    generalize upd H6 l2 (.lst (xs.map vN)) = H7 at hl2' hl7 hrp7 hhd7 htl7 hRs7 T7 U7
    clear s7 b7 S6 B6 S5 hrp5 hhd5 htl5 hRs5 U5 T5 hl1' hl2
    refine ⟨l1, l2, _, _, rfl, rfl, hl7, hl2', (by rw [List.length_map, lxs]; show 1 + 3 ≤ sizeLine; decide), fun pl hpl => ?_⟩
    have s8 := Same.new (o := .lst ([vN (2 ^ m - 1)] ++ xs.map vN)) hpl
    have hpl' : (upd H7 pl (.lst ([vN (2 ^ m - 1)] ++ xs.map vN))) pl = some (.lst (((2 ^ m - 1) :: xs).map vN)) := upd_same
    have hrp8 := s8 _ _ hrp7
    have hhd8 := s8 _ _ hhd7
    have htl8 := s8 _ _ htl7
    have hRs8 := hRs7.same s8
    have T8 := T7.same s8
    have U8 := U7.same s8
    generalize upd H7 pl (.lst ([vN (2 ^ m - 1)] ++ xs.map vN)) = H8 at hpl' hrp8 hhd8 htl8 hRs8 T8 U8
    clear s8 hl2' hl7 hrp7 hhd7 htl7 hRs7 T7 U7
    have hps : ∀ x ∈ (2 ^ m - 1) :: xs, x < 2 ^ m := fun x hx => by
      rcases List.mem_cons.mp hx with z | z
      · omega
      · exact hxs x z
    generalize (2 ^ m - 1) :: xs = ps at hpl' hps
    refine ⟨pl, rfl, ⟨_, SqL.of hpl'⟩, for_list (xs := ps.map vN) (fun k σ H' => But PT H8 H' ∧ TabAt PT qW H' ∧ ∃ v6 v7 v8, σ = [some (.ref a), some (.ref st), some (vN m), some (.ref rp), some (.ref hd), some (.ref tl), v6, v7, v8]) ⟨But.refl _ _, T8, none, none, none, rfl⟩ (fun k σ H' _ h => SqL.of (tab_but T8 h.1 hpl' fun _ z => (nomatch z))) (fun k u σ H' hu h => ?_) (fun σ H' h => ?_)⟩
    · obtain ⟨b9, T9, v6, v7, v8, rfl⟩ := h
      rw [List.getElem?_map] at hu
      cases ex : ps[k]? with
      | none => rw [ex] at hu; cases hu
      | some p =>
        rw [ex] at hu
        obtain rfl := (Option.some.inj hu).symm
        have hp := hps p (List.mem_of_getElem? ex)
        refine ⟨_, rfl, _, rfl, _, rfl, m, p, rs.map Rl.d, tl, ts, rfl, m7, hp, T9, tab_but T8 b9 htl8 (fun _ z => (nomatch z)), lts, U8.but T8 b9, fun v HA bA TA hv => ?_⟩
        have b8A := b9.trans bA
        have hrpA := tab_but T8 b8A hrp8 fun _ z => (nomatch z)
        have hhdA := tab_but T8 b8A hhd8 fun _ z => (nomatch z)
        have hRsA := hRs8.butT T8 b8A
        have dv : ∀ {HX : Hp} (u : Addr), HX u = some (.lst (rs.map fun (r : Rl) => V.ref r.r)) → RulesAt HX m rs → DV K HX (.ref u) (.list ((rs.map Rl.d).map dR)) := fun u hu hr' => DV.lst (SqL.of hu) (rules_dv hr')
        obtain ⟨n6, e6, l6⟩ : ∃ n6 : Nat, V.int (if decide (m < 6) = true then 1 else 0) = vN n6 ∧ n6 ≤ 1 := by
          by_cases z : m < 6
          · exact ⟨1, by rw [decide_eq_true z]; rfl, Nat.le_refl _⟩
          · exact ⟨0, by rw [decide_eq_false z]; rfl, Nat.zero_le _⟩
        refine ⟨_, rfl, m, 6, rfl, rfl, .inr ⟨_, rfl, 1, n6, rfl, e6, ((1 + n6 : Nat) : Int), rfl, by omega, by omega, for_rangeN (n := 1 + n6) (fun i σ H' => Same HA H' ∧ ∃ v8, σ = [some (.ref a), some (.ref st), some (vN m), some (.ref rp), some (.ref hd), some (.ref tl), some (vN p), some v, v8]) ⟨Same.refl _, v8, rfl⟩ (fun i σ H' hi h => ?_) (fun σ H' h => ?_)⟩⟩
        · obtain ⟨sB, v8, rfl⟩ := h
          refine ⟨_, rfl, _, rfl, _, rfl, m, p, hd, rs, rfl, m7, hp, SqL.of (sB _ _ hhdA), hRsA.same sB, by omega, fun v1 HC sC hv1 => ?_⟩
          have sAC := sB.trans sC
          refine ⟨_, rfl, twF m (rs.map Rl.d) p, v1, v, rfl, hv1, hv.same sAC, _, rfl, iteF ?_⟩
          refine ⟨_, rfl, _, rfl, .list ((rs.map Rl.d).map dR), .list ((rs.map Rl.d).map dR), dv hd (sAC _ _ hhdA) (hRsA.same sAC), dv rp (sAC _ _ hrpA) (hRsA.same sAC), shaped_map canLay_dR depth_dR _, shaped_map canLay_dR depth_dR _, noMix_list noMix_dR _ _, _, rfl, ?_⟩
          rw [if_pos rfl, same_list same_dR, decide_eq_true rfl]
          exact iteF ⟨sAC, _, rfl⟩
        · obtain ⟨sB, v8, rfl⟩ := h
          exact ⟨b8A.trans sB.but, TA.same sB, _, _, _, rfl⟩
    · obtain ⟨_, _, _, _, _, rfl⟩ := h
      exact q _
end
end Own

namespace Own
open PySem L2
section
variable {P : Program} {w : World} {K : PySem.W.Frag} {mg : Str → Option Value} {base : Heap}
seal PySem.wpAny
noncomputable abbrev sHas : Stmt := top 1
theorem scHas : FnScope ["some", "column"] ["some", "column"] (defScope sHas) := ⟨rfl, rfl, rfl, by decide +kernel, rfl, by decide +kernel, by decide +kernel⟩
theorem ok_has {f : Addr} {fd : FuncData} (F : Fun K "has_column" "has_column" sHas f fd) : FnOk P w K mg base CX0 1 f fd ["some", "column"] spHas := by
  refine F.ok scHas (fun vs H Q E h => ?_) (fun cdv A outer s H vs Q E hr h => ?_)
  · obtain ⟨a, k, rfl, _⟩ := h
    rfl
  · obtain ⟨a, k, rfl, q⟩ := h
    refine ⟨_, pss_one (ps_ret (pe_cmpR op_eq (pe_op op_and (pe_op op_shr (pv 0) (pv 1)) pe_int) pe_int (nomark _))), ?_⟩
    refine ⟨_, rfl, _, rfl, _, _, rfl, rfl, (by omega), _, _, rfl, rfl, rfl, ?_⟩
    show Q (V.bl (decide (V.int (Builtin.bitAnd ((a : Int) / 2 ^ (k : Int).toNat) 1) = V.int 1))) H
    rw [has_eq]
    exact q
noncomputable abbrev sCols : Stmt := top 2
theorem scCols : FnScope ["some"] ["some"] (defScope sCols) := ⟨rfl, rfl, rfl, by decide +kernel, rfl, by decide +kernel, by decide +kernel⟩
theorem ok_cols {f fH : Addr} {fd fdH : FuncData} (F : Fun K "columns_of" "columns_of" sCols f fd) (GH : FnOk P w K mg base CX0 1 fH fdH ["some", "column"] spHas) (mH : mg "has_column" = some (.ref fH)) (kH : PySem.W.keepIn K (.ref fH) = true) (bH : Binds K fdH ["some", "column"] []) (zR : mg "range" = none) : FnOk P w K mg base CX0 2 f fd ["some"] spCols := by
  refine F.ok scCols (fun vs H Q E h => ?_) (fun cdv A outer s H vs Q E hr h => ?_)
  · obtain ⟨a, rfl, _⟩ := h
    rfl
  · obtain ⟨a, rfl, ha, q⟩ := h
    refine ⟨_, pss_one (ps_ret (pe_comp (xs := ["column"]) (cs ["some"] (defScope sCols) rfl rfl (by decide +kernel)) rfl (pi_range1 rfl zR (pa_cons (pe_bm0 PySem.F.plainAttrs_int PySem.F.slot_int_bit_length PySem.F.type_int_bit_length mt_bitlen (pv 0)) pa_nil))
      (fun _ _ _ => pg_name (i := 0) (show (["column", "some"] : List Str).Nodup by decide +kernel) rfl (Or.inl rfl)) (fun _ _ _ => pts_one (pt_val (pe_call GH hr rfl mH kH bH .nil pass0 (pa_cons (pv 1) (pa_cons (pv 0) pa_nil))))) (fun _ _ _ => pv 0))), ?_⟩
    refine ⟨_, rfl, rfl, (a : Int), rfl, rfl, _, rfl, (by omega), ?_, ?_⟩
    · have := bitsN_le ha
      show ((bitsN a : Nat) : Int) < _
      omega
    · refine lc_range (lo := 0) (k := ((bitsN a : Nat) : Int).toNat) (n := 1) (fun i acc H' => H' = H ∧ acc = ((List.range i).filter (hasB a)).map vN) ?_ ⟨rfl, rfl⟩ (fun i acc H' hi h => ?_) (fun i acc H' hi h => ?_) (fun acc H' h => ?_)
      · have := bitsN_le ha
        omega
      · rw [h.2, List.length_map]
        exact Nat.le_trans (List.length_filter_le _ _) (by simp)
      · obtain ⟨rfl, rfl⟩ := h
        refine ⟨rfl, _, rfl, _, rfl, a, i, ?_, _, rfl, ?_⟩
        · show [vN a, V.int (0 + (i : Int))] = _
          rw [Int.zero_add]; rfl
        · refine ite2 (fun hc => ?_) (fun hc => ?_)
          · refine ⟨_, rfl, rfl, ?_⟩
            rw [filt_succ, if_pos hc, List.map_append, Int.zero_add]
            rfl
          · refine ⟨rfl, ?_⟩
            rw [filt_succ, if_neg hc, List.append_nil]
      · obtain ⟨rfl, rfl⟩ := h
        intro p hp
        exact q p hp
noncomputable abbrev sAll : Stmt := top 3
theorem scAll : FnScope ["many"] ["many"] (defScope sAll) := ⟨rfl, rfl, rfl, by decide +kernel, rfl, by decide +kernel, by decide +kernel⟩
theorem ok_all {f : Addr} {fd : FuncData} (F : Fun K "all_of" "all_of" sAll f fd) : FnOk P w K mg base CX0 1 f fd ["many"] spAllOf := by
  refine F.ok scAll (fun vs H Q E h => ?_) (fun cdv A outer s H vs Q E hr h => ?_)
  · obtain ⟨m, rfl, _⟩ := h
    rfl
  · obtain ⟨m, rfl, hm, q⟩ := h
    refine ⟨_, pss_one (ps_ret (pe_op op_sub (pe_op op_shl pe_int (pv 0)) pe_int)), ?_⟩
    refine ⟨_, rfl, _, _, rfl, rfl, cpow1 hm, _, _, rfl, rfl, ?_⟩
    show Q (V.int (1 * 2 ^ (m : Int).toNat - 1)) H
    have pw : 0 < 2 ^ m := Nat.two_pow_pos m
    have e : (1 : Int) * 2 ^ (m : Int).toNat - 1 = ((2 ^ m - 1 : Nat) : Int) := by rw [shl1]; omega
    rw [e]
    exact q
noncomputable abbrev sWithin : Stmt := top 4
noncomputable def spWithin : Sp := fun vs H Q _ => ∃ a b : Nat, vs = [.int (a : Int), .int (b : Int)] ∧ Q (.bl (decide (a &&& b = a))) H
theorem scWithin : FnScope ["one", "other"] ["one", "other"] (defScope sWithin) := ⟨rfl, rfl, rfl, by decide +kernel, rfl, by decide +kernel, by decide +kernel⟩
theorem ok_within {f : Addr} {fd : FuncData} (F : Fun K "is_within" "is_within" sWithin f fd) : FnOk P w K mg base CX0 1 f fd ["one", "other"] spWithin := by
  refine F.ok scWithin (fun vs H Q E h => ?_) (fun cdv A outer s H vs Q E hr h => ?_)
  · obtain ⟨a, b, rfl, _⟩ := h
    rfl
  · obtain ⟨a, b, rfl, q⟩ := h
    refine ⟨_, pss_one (ps_ret (pe_cmpR op_eq (pe_op op_and (pv 0) (pv 1)) (pv 0) (nomark _))), ?_⟩
    refine ⟨_, rfl, _, rfl, _, _, rfl, rfl, _, rfl, rfl, ?_⟩
    show Q (V.bl (decide (V.int (Builtin.bitAnd (a : Int) (b : Int)) = V.int (a : Int)))) H
    rw [bitAnd_nat, dec_int]
    have e : (((a &&& b : Nat) : Int) == (a : Int)) = decide (a &&& b = a) := by
      rw [Bool.eq_iff_iff, beq_iff_eq, decide_eq_true_iff]
      exact Int.ofNat_inj
    rw [e]
    exact q
noncomputable abbrev sMore : Stmt := top 5
theorem scMore : FnScope ["sets", "some", "found", "inner"] ["sets", "some"] (defScope sMore) := ⟨rfl, rfl, rfl, by decide +kernel, rfl, by decide +kernel, by decide +kernel⟩
theorem ok_more {f fC : Addr} {fd fdC : FuncData} (F : Fun K "with_one_more" "with_one_more" sMore f fd) (GC : FnOk P w K mg base CX0 2 fC fdC ["some"] spCols) (mC : mg "columns_of" = some (.ref fC)) (kC : PySem.W.keepIn K (.ref fC) = true) (bC : Binds K fdC ["some"] []) (zsorted : mg "sorted" = none) : FnOk P w K mg base CX0 3 f fd ["sets", "some"] spOneUp := by
  refine F.ok scMore (fun vs H Q E h => ?_) (fun cdv A outer s H vs Q E hr h => ?_)
  · obtain ⟨p, a, i, rfl, _⟩ := h
    rfl
  · obtain ⟨p, a, i, rfl, ha, hi, hp, q⟩ := h
    have nd := scMore.nd
    have hr2 : Room 2 _ := hr.mono (by decide)
    obtain ⟨c7, cb⟩ := cols7 a ha
    have lr := row_len a ha i (by omega)
    refine ⟨_, (pss_cons (ps_set (i := 2) nd rfl (Or.inl rfl) (pe_lst pa_nil))
      (pss_cons (ps_for PassesOwn.never rfl (pi_listK (K := K) rfl (pv 0)) (pg_name (i := 3) nd rfl (Or.inr rfl)) (pss_one (ps_expr (pe_bm PySem.F.plainAttrs_list PySem.F.slot_list_extend PySem.F.type_list_extend mt_extend (pv 2) (pa_cons (pe_comp (xs := ["column"]) (cs ["sets", "some", "found", "inner"] (defScope sMore) rfl rfl (by decide +kernel)) rfl (pi_listK (K := K) rfl (pe_call GC hr2 rfl mC kC bC .nil pass0 (pa_cons (pv 1) pa_nil))) (fun _ _ _ => pg_name (i := 0) (show (["column", "sets", "some", "found", "inner"] : List Str).Nodup by decide +kernel) rfl (Or.inl rfl)) (fun _ _ _ => (pts_one (pt_cmpR op_gtN (pe_op op_shl1 pe_int (pv 0)) (pv 4) (nomark _)))) (fun _ _ _ => (pe_op op_orN (pv 4) (pe_op op_shl1 pe_int (pv 0))))) pa_nil)))))
      (pss_one (ps_ret (pe_callB (call_sortedK (K := K) rfl) (by rfl) zsorted PyProof.Rows.boot_sorted (pa_cons (pv 2) pa_nil)))))), ?_⟩
    refine ⟨Nat.zero_le _, fun fp hfp => ?_⟩
    have s0 := Same.new (o := .lst []) hfp
    refine ⟨_, rfl, p, rfl, ⟨_, SqL.of (s0 _ _ hp)⟩, for_list (K := K) (xs := (rowN a i).map vN) (fun j σ H' => (∃ v3 : Option V, σ = [some (.ref p), some (vN a), some (.ref fp), v3]) ∧ Same H H' ∧ H' fp = some (.lst ((moreN a ((rowN a i).take j)).map vN))) ⟨⟨_, rfl⟩, s0, upd_same⟩ (fun j σ H' _ h => SqL.of (h.2.1 _ _ hp)) ?_ ?_⟩
    · rintro j v σ H1 hv ⟨⟨v3, rfl⟩, s1, hf1⟩
      rw [List.getElem?_map] at hv
      cases ex : (rowN a i)[j]? with
      | none => rw [ex] at hv; cases hv
      | some x =>
        rw [ex] at hv
        obtain rfl := (Option.some.inj hv).symm
        refine ⟨_, rfl, .inl ⟨rfl, _, SqL.of hf1⟩, _, rfl, a, rfl, by omega, fun cp hcp => ⟨cp, rfl, ⟨_, SqL.of upd_same⟩, ?_⟩⟩
        have sC := Same.new (o := .lst ((colsN a).map vN)) hcp
        have hcp2 : (upd H1 cp (.lst ((colsN a).map vN))) cp = some (.lst ((colsN a).map vN)) := upd_same
        generalize upd H1 cp (.lst ((colsN a).map vN)) = H2 at sC hcp2
        refine lc_list (K := K) (xs := (colsN a).map vN) (fun k acc H3 => H3 = H2 ∧ acc = ((((colsN a).take k).filter fun c => decide (x < 2 ^ c)).map fun c => x ||| 2 ^ c).map vN) (by rw [List.length_map]; omega) ⟨rfl, rfl⟩ (fun k acc H3 hk h => ?_) (fun k u acc H3 hu h => ?_) (fun acc H3 h => ?_)
        · obtain ⟨rfl, rfl⟩ := h
          exact ⟨SqL.of hcp2, by rw [List.length_map, List.length_map]; exact Nat.le_trans (List.length_filter_le _ _) (List.length_take_le _ _)⟩
        · obtain ⟨rfl, rfl⟩ := h
          rw [List.getElem?_map] at hu
          cases ec : (colsN a)[k]? with
          | none => rw [ec] at hu; cases hu
          | some c =>
            rw [ec] at hu
            obtain rfl := (Option.some.inj hu).symm
            have c1 : c < 7 := of_decide_eq_true (List.all_eq_true.mp cb c (List.mem_of_getElem? ec))
            have et : ((colsN a).take (k + 1)).filter (fun c => decide (x < 2 ^ c)) = ((colsN a).take k).filter (fun c => decide (x < 2 ^ c)) ++ [c].filter (fun c => decide (x < 2 ^ c)) := by rw [List.take_succ, ec, ← List.filter_append]; rfl
            refine ⟨rfl, _, rfl, c, rfl, rfl, by omega, _, rfl, 2 ^ c, x, rfl, rfl, _, rfl, ite2 (fun hb => ?_) (fun hb => ?_)⟩
            · refine ⟨_, rfl, _, rfl, c, rfl, rfl, by omega, x, 2 ^ c, rfl, rfl, rfl, ?_⟩
              rw [et, List.filter_cons_of_pos (p := fun c => decide (x < 2 ^ c)) hb, List.map_append, List.map_append]; rfl
            · refine ⟨rfl, ?_⟩
              rw [et, List.filter_cons_of_neg (p := fun c => decide (x < 2 ^ c)) hb, List.filter_nil, List.append_nil]
        · obtain ⟨rfl, rfl⟩ := h
          rw [List.length_map, List.take_length]
          intro ep hep
          have sE := Same.new (o := .lst (((((colsN a).filter fun c => decide (x < 2 ^ c)).map fun c => x ||| 2 ^ c)).map vN)) hep
          have hf3 := (sC.trans sE) _ _ hf1
          have lm := moreN_len a ha ((rowN a i).take j)
          have lt : ((rowN a i).take j).length ≤ (rowN a i).length := List.length_take_le' j _
          have lu := upOf_len a x ha
          refine ⟨fp, ep, _, _, rfl, rfl, hf3, upd_same, Nat.le_of_lt (small1000 ?_), ?_⟩
          · rw [List.length_map, List.length_map]
            have : (((colsN a).filter fun c => decide (x < 2 ^ c)).map fun c => x ||| 2 ^ c).length ≤ 7 := lu
            omega
          · refine ⟨⟨_, rfl⟩, (s1.trans (sC.trans sE)).own3 hfp, ?_⟩
            rw [upd_same, moreN_succ ex, List.map_append]
            rfl
    · rintro σ H1 ⟨⟨v3, rfl⟩, s1, hf1⟩
      rw [List.length_map, List.take_length] at hf1
      have mi := map_int (moreN a (rowN a i))
      have l64 : ((moreN a (rowN a i)).map fun (k : Nat) => (k : Int)).length < 64 := by
        rw [List.length_map, (List.isPerm_iff.mp (more_perm a ha i hi)).length_eq]
        have := row_len a ha (i + 1) (by omega)
        omega
      refine ⟨_, rfl, fp, (moreN a (rowN a i)).map fun (k : Nat) => (k : Int), rfl, SqL.of (by rw [mi]; exact hf1), l64, fun l ns' hl pm pw => ?_⟩
      rw [row_is ha hi pm pw, map_int]
      exact q l _ (s1.trans (Same.new hl)) (s1.free hl) upd_same
noncomputable abbrev sCanUse : Stmt := top 7
theorem scCanUse : FnScope ["rule", "block", "taken"] ["rule", "block"] (defScope sCanUse) := ⟨rfl, rfl, rfl, by decide +kernel, rfl, by decide +kernel, by decide +kernel⟩
theorem ok_canuse {f : Addr} {fd : FuncData} (F : Fun K "can_use" "can_use" sCanUse f fd) : FnOk P w K mg base CX0 1 f fd ["rule", "block"] spUsable := by
  refine F.ok scCanUse (fun vs H Q E h => ?_) (fun cdv A outer s H vs Q E hr h => ?_)
  · obtain ⟨r, st, x, y, b, rfl, _⟩ := h
    rfl
  · obtain ⟨r, st, x, y, b, rfl, hR, q⟩ := h
    have nd := scCanUse.nd
    refine ⟨_, (pss_cons (ps_if (pt_cmpR op_neN (pe_op op_andN (pe_ix (ix_tupK (K := K) rfl) (pv 0) pe_int (fun _ _ => rfl)) (pv 1)) pe_int (nomark _)) (pss_one (ps_ret pe_bl)) pss_nil)
      (pss_cons (ps_set (i := 2) nd rfl (Or.inl rfl) (pe_op op_andN (pe_ix (ix_tupK (K := K) rfl) (pv 0) pe_int (fun _ _ => rfl)) (pv 1)))
      (pss_cons (ps_if (pt_cmpR op_eq (pe_ix (ix_tupK (K := K) rfl) (pv 0) pe_int (fun _ _ => rfl)) pe_str (nomark _)) (pss_one (ps_ret (pe_cmpR op_neN (pv 2) pe_int (nomark _)))) pss_nil)
      (pss_one (ps_ret (pe_and (pe_cmpR op_neN (pv 2) pe_int (nomark _)) (pe_one (pe_cmpR op_neN (pv 2) (pv 1) (nomark _))))))))), ?_⟩
    refine ⟨_, rfl, r, _, _, _, rfl, rfl, SqT.of hR, atI_nat (j := 1) rfl, _, rfl, x, b, rfl, rfl, x &&& b, 0, rfl, rfl, _, rfl, ?_⟩
    cases c1 : decide (x &&& b = 0) with
    | false =>
      refine iteT ?_
      have : usableB st x y b = false := by unfold usableB; rw [c1]; rfl
      rw [this] at q
      exact q
    | true =>
      refine iteF ?_
      refine ⟨_, rfl, r, _, _, _, rfl, rfl, SqT.of hR, atI_nat (j := 2) rfl, _, rfl, y, b, rfl, rfl, ?_⟩
      refine ⟨_, rfl, r, _, _, _, rfl, rfl, SqT.of hR, atI_nat (j := 0) rfl, rfl, _, rfl, ?_⟩
      cases st with
      | true =>
        refine iteT ?_
        have : usableB true x y b = !decide (y &&& b = 0) := by unfold usableB; rw [c1]; simp
        rw [this] at q
        exact ⟨_, rfl, y &&& b, 0, rfl, rfl, q⟩
      | false =>
        refine ite2 (fun hc => ?_) (fun _ => ?_)
        · exact absurd (of_decide_eq_true hc) (by intro z; injection z with z; revert z; decide)
        refine ⟨_, rfl, y &&& b, 0, rfl, rfl, _, rfl, ?_⟩
        cases c2 : decide (y &&& b = 0) with
        | true =>
          refine iteF ?_
          have : usableB false x y b = false := by unfold usableB; rw [c1, c2]; rfl
          rw [this] at q
          exact q
        | false =>
          refine iteT ?_
          have : usableB false x y b = !decide (y &&& b = b) := by unfold usableB; rw [c1, c2]; simp
          rw [this] at q
          exact ⟨_, rfl, _, rfl, y &&& b, b, rfl, rfl, q⟩
noncomputable abbrev sListed : Stmt := top 8
theorem scListed : FnScope ["block"] ["block"] (defScope sListed) := ⟨rfl, rfl, rfl, by decide +kernel, rfl, by decide +kernel, by decide +kernel⟩
theorem ok_listed {f : Addr} {fd : FuncData} (F : Fun K "listed" "listed" sListed f fd) : FnOk P w K mg base CX0 1 f fd ["block"] spListed := by
  refine F.ok scListed (fun vs H Q E h => ?_) (fun cdv A outer s H vs Q E hr h => ?_)
  · obtain ⟨b, rfl, _⟩ := h
    rfl
  · obtain ⟨b, rfl, q⟩ := h
    refine ⟨_, (pss_cons (ps_if (pt_cmpR op_eqN (pv 0) pe_int (nomark _)) (pss_one (ps_ret (pe_lst pa_nil))) pss_nil)
      (pss_one (ps_ret (pe_lst (pa_cons (pv 0) pa_nil))))), ?_⟩
    refine ⟨_, rfl, b, 0, rfl, rfl, _, rfl, ite2 (fun hc => ?_) (fun hc => ?_)⟩
    · have b0 : b = 0 := of_decide_eq_true hc
      refine ⟨(by show 0 ≤ sizeLine; exact Nat.zero_le _), fun p hp => ?_⟩
      have := q p hp
      rw [if_neg (by omega)] at this
      exact this
    · have b0 : 0 < b := Nat.pos_of_ne_zero fun z => hc (decide_eq_true z)
      refine ⟨_, rfl, (by show 1 ≤ sizeLine; decide), fun p hp => ?_⟩
      have := q p hp
      rw [if_pos b0] at this
      exact this
noncomputable abbrev sUsed : Stmt := top 9
theorem scUsed : FnScope ["rule", "fixed", "blocks", "at", "taken", "rest"] ["rule", "fixed", "blocks", "at"] (defScope sUsed) := ⟨rfl, rfl, rfl, by decide +kernel, rfl, by decide +kernel, by decide +kernel⟩
theorem ok_used {f fI : Addr} {fd fdI : FuncData} (F : Fun K "used" "used" sUsed f fd) (GI : FnOk P w K mg base CX0 1 fI fdI ["block"] spListed) (mI : mg "listed" = some (.ref fI)) (kI : PySem.W.keepIn K (.ref fI) = true) (bI : Binds K fdI ["block"] []) : FnOk P w K mg base CX0 2 f fd ["rule", "fixed", "blocks", "at"] (spUsed K) := by
  refine F.ok scUsed (fun vs H Q E h => ?_) (fun cdv A outer s H vs Q E hr h => ?_)
  · obtain ⟨r, l, st, x, y, fx, at_, bs, rfl, _⟩ := h
    rfl
  · obtain ⟨r, l, st, x, y, fx, at_, bs, rfl, hR, hl, hat, hb, hdis, q⟩ := h
    have nd := scUsed.nd
    refine ⟨_, (pss_cons (ps_set (i := 4) nd rfl (Or.inl rfl) (pe_op op_andN (pe_ix (ix_listK (K := K) rfl) (pv 2) (pv 3) (fun _ _ => rfl)) (pe_ix (ix_tupK (K := K) rfl) (pv 0) pe_int (fun _ _ => rfl))))
      (pss_cons (ps_set (i := 5) nd rfl (Or.inl rfl) (pe_op op_andInv (pe_ix (ix_listK (K := K) rfl) (pv 2) (pv 3) (fun _ _ => rfl)) (pe_un un_inv (pe_ix (ix_tupK (K := K) rfl) (pv 0) pe_int (fun _ _ => rfl)))))
      (pss_cons (ps_if (pt_cmpR op_eq (pe_ix (ix_tupK (K := K) rfl) (pv 0) pe_int (fun _ _ => rfl)) pe_str (nomark _)) (pss_one (ps_ret (pe_tup (pa_cons (pe_op op_orN (pv 1) (pv 4)) (pa_cons (pe_op op_cat (pe_op op_cat (pe_slice sl_list (pv 2) po_none (po_some (pv 3))) (pe_call GI hr rfl mI kI bI .nil pass0 (pa_cons (pv 5) pa_nil))) (pe_slice sl_list (pv 2) (po_some (pe_op op_addN (pv 3) pe_int)) po_none)) pa_nil))))) pss_nil)
      (pss_one (ps_ret (pe_tup (pa_cons (pv 1) (pa_cons (pe_op op_cat (pe_op op_cat (pe_slice sl_list (pv 2) po_none (po_some (pv 3))) (pe_lst (pa_cons (pv 4) (pa_cons (pv 5) pa_nil)))) (pe_slice sl_list (pv 2) (po_some (pe_op op_addN (pv 3) pe_int)) po_none)) pa_nil)))))))), ?_⟩
    have eb : bs[at_]? = some (bs.getD at_ 0) := by rw [List.getD_eq_getElem?_getD, List.getElem?_eq_getElem hat]; rfl
    have ebv : (bs.map vN)[at_]? = some (vN (bs.getD at_ 0)) := by rw [List.getElem?_map, eb]; rfl
    refine ⟨_, rfl, _, rfl, l, _, _, _, rfl, rfl, hl, atI_nat ebv, _, rfl, r, _, _, _, rfl, rfl, SqT.of hR, atI_nat (j := 2) rfl, bs.getD at_ 0, y, rfl, rfl, ?_⟩
    refine ⟨_, rfl, _, rfl, l, _, _, _, rfl, rfl, hl, atI_nat ebv, _, rfl, r, _, _, _, rfl, rfl, SqT.of hR, atI_nat (j := 2) rfl, (y : Int), rfl, bs.getD at_ 0, y, rfl, rfl, ?_⟩
    refine ⟨_, rfl, r, _, _, _, rfl, rfl, SqT.of hR, atI_nat (j := 0) rfl, rfl, _, rfl, ?_⟩
    have lt : (List.take at_ (bs.map vN)).length ≤ 200 := by rw [List.length_take, List.length_map]; omega
    have ld : (List.drop (at_ + 1) (bs.map vN)).length ≤ 200 := by rw [List.length_drop, List.length_map]; omega
    have szc : ∀ n : Nat, n ≤ 1000 → n ≤ sizeLine := fun n h => Nat.le_of_lt (small1000 h)
    have e1 : cutV (bs.map vN) none (some (at_ : Int)) = List.take at_ (bs.map vN) := cut_take _ _
    have e2 : cutV (bs.map vN) (some ((at_ + 1 : Nat) : Int)) none = List.drop (at_ + 1) (bs.map vN) := cut_drop _ _
    cases st with
    | true =>
      refine iteT ?_
      have eo : behindFx true y fx bs at_ = fx ||| inN y bs at_ := by
        unfold behindFx
        rw [if_pos rfl]
        exact (or_add fx (inN y bs at_) (dis_sub hdis (sub_in _ y))).symm
      refine ⟨_, rfl, _, rfl, fx, inN y bs at_, rfl, rfl, ?_⟩
      refine ⟨_, rfl, _, rfl, (at_ : Int), rfl, l, _, rfl, hl, fun p1 hp1 => ?_⟩
      rw [e1]
      have s1 := Same.new (o := .lst (List.take at_ (bs.map vN))) hp1
      refine ⟨_, rfl, outN y bs at_, rfl, fun p3 hp3 => ?_⟩
      have s3 := Same.new (o := .lst ((if 0 < outN y bs at_ then [outN y bs at_] else []).map vN)) hp3
      have l3 : ((if 0 < outN y bs at_ then [outN y bs at_] else []).map vN).length ≤ 1 := by split <;> simp
      refine ⟨p1, p3, List.take at_ (bs.map vN), (if 0 < outN y bs at_ then [outN y bs at_] else []).map vN, rfl, rfl, s3 _ _ upd_same, upd_same, szc _ (by omega), fun p4 hp4 => ?_⟩
      have s4 := Same.new (o := .lst (List.take at_ (bs.map vN) ++ (if 0 < outN y bs at_ then [outN y bs at_] else []).map vN)) hp4
      have s14 := (s1.trans s3).trans s4
      refine ⟨_, rfl, _, rfl, at_, 1, rfl, rfl, ((at_ + 1 : Nat) : Int), rfl, l, _, rfl, s14.seq hl, fun p5 hp5 => ?_⟩
      rw [e2]
      have s5 := Same.new (o := .lst (List.drop (at_ + 1) (bs.map vN))) hp5
      refine ⟨p4, p5, List.take at_ (bs.map vN) ++ (if 0 < outN y bs at_ then [outN y bs at_] else []).map vN, List.drop (at_ + 1) (bs.map vN), rfl, rfl, s5 _ _ upd_same, upd_same, szc _ (by rw [List.length_append]; omega), fun p6 hp6 => ?_⟩
      have e6 : List.take at_ (bs.map vN) ++ (if 0 < outN y bs at_ then [outN y bs at_] else []).map vN ++ List.drop (at_ + 1) (bs.map vN) = (behindBs true y bs at_).map vN := by
        unfold behindBs
        rw [if_pos rfl, List.map_append, List.map_append, List.map_take, List.map_drop]
      rw [e6]
      have s6 := Same.new (o := .lst ((behindBs true y bs at_).map vN)) hp6
      refine ⟨(by show 2 ≤ sizeLine; decide), fun t ht => ?_⟩
      have s7 := Same.new (o := .tup [vN (fx ||| inN y bs at_), V.ref p6]) ht
      have s16 := (s14.trans s5).trans s6
      exact q t p6 _ (s16.trans s7) (s16.none ht) (by rw [eo]; exact upd_same) ((s14.trans s5).none hp6) (s7 _ _ upd_same)
    | false =>
      refine ite2 (fun hc => ?_) (fun _ => ?_)
      · exact absurd (of_decide_eq_true hc) (by intro z; injection z with z; revert z; decide)
      refine ⟨_, rfl, ?_⟩
      refine ⟨_, rfl, _, rfl, (at_ : Int), rfl, l, _, rfl, hl, fun p1 hp1 => ?_⟩
      rw [e1]
      have s1 := Same.new (o := .lst (List.take at_ (bs.map vN))) hp1
      refine ⟨_, rfl, _, rfl, (by show 2 ≤ sizeLine; decide), fun p3 hp3 => ?_⟩
      have s3 := Same.new (o := .lst [vN (inN y bs at_), vN (outN y bs at_)]) hp3
      refine ⟨p1, p3, List.take at_ (bs.map vN), [vN (inN y bs at_), vN (outN y bs at_)], rfl, rfl, s3 _ _ upd_same, upd_same, szc _ (by show _ + 2 ≤ 1000; omega), fun p4 hp4 => ?_⟩
      have s4 := Same.new (o := .lst (List.take at_ (bs.map vN) ++ [vN (inN y bs at_), vN (outN y bs at_)])) hp4
      have s14 := (s1.trans s3).trans s4
      refine ⟨_, rfl, _, rfl, at_, 1, rfl, rfl, ((at_ + 1 : Nat) : Int), rfl, l, _, rfl, s14.seq hl, fun p5 hp5 => ?_⟩
      rw [e2]
      have s5 := Same.new (o := .lst (List.drop (at_ + 1) (bs.map vN))) hp5
      refine ⟨p4, p5, List.take at_ (bs.map vN) ++ [vN (inN y bs at_), vN (outN y bs at_)], List.drop (at_ + 1) (bs.map vN), rfl, rfl, s5 _ _ upd_same, upd_same, szc _ (by rw [List.length_append]; show _ + 2 + _ ≤ 1000; omega), fun p6 hp6 => ?_⟩
      have e6 : List.take at_ (bs.map vN) ++ [vN (inN y bs at_), vN (outN y bs at_)] ++ List.drop (at_ + 1) (bs.map vN) = (behindBs false y bs at_).map vN := by
        unfold behindBs
        rw [if_neg Bool.false_ne_true, List.map_append, List.map_append, List.map_take, List.map_drop]
        rfl
      rw [e6]
      have s6 := Same.new (o := .lst ((behindBs false y bs at_).map vN)) hp6
      refine ⟨(by show 2 ≤ sizeLine; decide), fun t ht => ?_⟩
      have s7 := Same.new (o := .tup [vN fx, V.ref p6]) ht
      have s16 := (s14.trans s5).trans s6
      exact q t p6 _ (s16.trans s7) (s16.none ht) upd_same ((s14.trans s5).none hp6) (s7 _ _ upd_same)
noncomputable abbrev sBegun : Stmt := top 10
theorem scBegun : FnScope ["many", "some"] ["many", "some"] (defScope sBegun) := ⟨rfl, rfl, rfl, by decide +kernel, rfl, by decide +kernel, by decide +kernel⟩
theorem ok_begun {f fI fAL : Addr} {fd fdI fdAL : FuncData} (F : Fun K "begun" "begun" sBegun f fd) (GI : FnOk P w K mg base CX0 1 fI fdI ["block"] spListed) (mI : mg "listed" = some (.ref fI)) (kI : PySem.W.keepIn K (.ref fI) = true) (bI : Binds K fdI ["block"] []) (GAL : FnOk P w K mg base CX0 1 fAL fdAL ["many"] spAllOf) (mAL : mg "all_of" = some (.ref fAL)) (kAL : PySem.W.keepIn K (.ref fAL) = true) (bAL : Binds K fdAL ["many"] []) : FnOk P w K mg base CX0 2 f fd ["many", "some"] (spBegun K) := by
  refine F.ok scBegun (fun vs H Q E h => ?_) (fun cdv A outer s H vs Q E hr h => ?_)
  · obtain ⟨m, x, rfl, _⟩ := h
    rfl
  · obtain ⟨m, x, rfl, m7, hx, q⟩ := h
    have hr1 : Room 1 _ := hr.mono (by decide)
    refine ⟨_, (pss_one (ps_ret (pe_tup (pa_cons (pv 1) (pa_cons (pe_call GI hr1 rfl mI kI bI .nil pass0 (pa_cons (pe_op op_andInv (pe_call GAL hr1 rfl mAL kAL bAL .nil pass0 (pa_cons (pv 0) pa_nil)) (pe_un un_inv (pv 1))) pa_nil)) pa_nil))))), ?_⟩
    refine ⟨_, rfl, _, rfl, m, rfl, by omega, _, rfl, (x : Int), rfl, 2 ^ m - 1, x, rfl, rfl, 2 ^ m - 1 - ((2 ^ m - 1) &&& x), rfl, fun p hp => ?_⟩
    have ea : (2 ^ m - 1) &&& x = x := by rw [Nat.and_comm, Nat.and_two_pow_sub_one_eq_mod, Nat.mod_eq_of_lt hx]
    have e : (if 0 < 2 ^ m - 1 - ((2 ^ m - 1) &&& x) then [2 ^ m - 1 - ((2 ^ m - 1) &&& x)] else []) = beginBs m x := by
      rw [ea]
      unfold beginBs
      by_cases h : x < 2 ^ m - 1
      · rw [if_pos h, if_pos (by omega)]
      · rw [if_neg h, if_neg (by omega)]
    rw [e]
    have s1 := Same.new (o := .lst ((beginBs m x).map vN)) hp
    refine ⟨(by show 2 ≤ sizeLine; decide), fun t ht => ?_⟩
    have s2 := Same.new (o := .tup [vN x, V.ref p]) ht
    exact q t p _ (s1.trans s2) (s1.none ht) upd_same hp (s2 _ _ upd_same)
noncomputable abbrev sFirst : Stmt := top 11
theorem scFirst : FnScope ["rules", "blocks", "number", "rule", "at", "block"] ["rules", "blocks"] (defScope sFirst) := ⟨rfl, rfl, rfl, by decide +kernel, rfl, by decide +kernel, by decide +kernel⟩
theorem ok_first {f fCU : Addr} {fd fdCU : FuncData} (F : Fun K "first_use" "first_use" sFirst f fd) (GCU : FnOk P w K mg base CX0 1 fCU fdCU ["rule", "block"] spUsable) (mCU : mg "can_use" = some (.ref fCU)) (kCU : PySem.W.keepIn K (.ref fCU) = true) (bCU : Binds K fdCU ["rule", "block"] []) (zenumerate : mg "enumerate" = none) : FnOk P w K mg base CX0 2 f fd ["rules", "blocks"] (spFirstUse K) := by
  refine F.ok scFirst (fun vs H Q E h => ?_) (fun cdv A outer s H vs Q E hr h => ?_)
  · obtain ⟨rl, bl, rs, bs, m, rfl, _⟩ := h
    rfl
  · obtain ⟨rl, bl, rs, bs, m, rfl, hrl, hRs, hbl, lr, lb, qn, qs⟩ := h
    have nd := scFirst.nd
    have hr : Room 1 _ := hr.mono (by decide)
    have lrm : (rs.map fun r => V.ref r.r).length = rs.length := List.length_map ..
    have lbm : (bs.map vN).length = bs.length := List.length_map ..
    refine ⟨_, (pss_cons (ps_for PassesOwn.never rfl (pi_enum (K := K) rfl rfl zenumerate (pa_cons (pv 0) pa_nil)) (pg_tup rfl (pgs_cons (pg_name (i := 2) nd rfl (Or.inl rfl)) (pgs_cons (pg_name (i := 3) nd rfl (Or.inl rfl)) pgs_nil))) (pss_one (ps_for PassesOwn.never rfl (pi_enum (K := K) rfl rfl zenumerate (pa_cons (pv 1) pa_nil)) (pg_tup rfl (pgs_cons (pg_name (i := 4) nd rfl (Or.inl rfl)) (pgs_cons (pg_name (i := 5) nd rfl (Or.inl rfl)) pgs_nil))) (pss_one (ps_if (pt_val (pe_call GCU hr rfl mCU kCU bCU .nil pass0 (pa_cons (pv 3) (pa_cons (pv 5) pa_nil)))) (pss_one (ps_ret (pe_tup (pa_cons (pv 2) (pa_cons (pv 4) pa_nil))))) pss_nil)))))
      (pss_one (ps_ret pe_non))), ?_⟩
    refine ⟨_, rfl, rl, _, rfl, hrl, for_enum (xs := rs.map fun r => V.ref r.r) (fun i σ H' => (∃ v2 v3 v4 v5, σ = [some (.ref rl), some (.ref bl), v2, v3, v4, v5]) ∧ Same H H' ∧ usesN (rs.map Rl.d) bs i = []) ⟨⟨none, none, none, none, rfl⟩, Same.refl _, rfl⟩ (fun i σ H' _ h => h.2.1.seq hrl) ?_ ?_⟩
    · rintro i v σ H0 t0 hv ⟨⟨v2, v3, v4, v5, rfl⟩, s0, u0⟩ ht0
      rw [List.getElem?_map] at hv
      cases er : rs[i]? with
      | none => rw [er] at hv; cases hv
      | some r =>
        rw [er] at hv
        obtain rfl := (Option.some.inj hv).symm
        have hi : i < rs.length := (List.getElem?_eq_some_iff.mp er).1
        have hrm := List.mem_of_getElem? er
        have s1 := s0.trans (Same.new (o := .tup [.int (i : Int), V.ref r.r]) ht0)
        refine ⟨t0, _, rfl, SqT.of upd_same, rfl, _, _, rfl, _, _, rfl, rfl, ?_⟩
        generalize upd H0 t0 (.tup [.int (i : Int), V.ref r.r]) = H1 at s1
        refine ⟨_, rfl, bl, _, rfl, s1.seq hbl, for_enum (xs := bs.map vN) (fun j σ H' => (∃ v4 v5, σ = [some (.ref rl), some (.ref bl), some (vN i), some (.ref r.r), v4, v5]) ∧ Same H H' ∧ usesR r.d i bs j = []) ⟨⟨_, _, rfl⟩, s1, rfl⟩ (fun j σ H' _ h => h.2.1.seq hbl) ?_ ?_⟩
        · rintro j v σ H2 t2 hv' ⟨⟨v4', v5', rfl⟩, s2, u2⟩ ht2
          rw [List.getElem?_map] at hv'
          cases eb : bs[j]? with
          | none => rw [eb] at hv'; cases hv'
          | some b =>
            rw [eb] at hv'
            obtain rfl := (Option.some.inj hv').symm
            have hj : j < bs.length := (List.getElem?_eq_some_iff.mp eb).1
            have ebd : bs.getD j 0 = b := by rw [List.getD_eq_getElem?_getD, eb]; rfl
            have s3 := s2.trans (Same.new (o := .tup [.int (j : Int), vN b]) ht2)
            refine ⟨t2, _, rfl, SqT.of upd_same, rfl, _, _, rfl, _, _, rfl, rfl, ?_⟩
            generalize upd H2 t2 (.tup [.int (j : Int), vN b]) = H3 at s3
            refine ⟨_, rfl, _, rfl, r.r, r.st, r.x, r.y, b, rfl, s3 _ _ (hRs r hrm).1, _, rfl, ite2 (fun hu => ?_) (fun hu => ?_)⟩
            · obtain ⟨us, eu⟩ := uses_first (n := rs.length) u0 (by rw [rd_at er]; exact u2) hi hj (by rw [rd_at er, ebd]; exact hu)
              refine ⟨_, rfl, _, rfl, (by show 2 ≤ sizeLine; decide), fun t ht => ?_⟩
              exact qs (i, j) us t _ (s3.trans (Same.new ht)) eu (s3.none ht) upd_same
            · refine ⟨⟨_, _, rfl⟩, s3, ?_⟩
              rw [usesR_succ, u2, ebd, if_neg (show ¬ usB r.d b = true from hu)]; rfl
        · rintro σ H2 ⟨⟨v4', v5', rfl⟩, s2, u2⟩
          rw [lbm] at u2
          refine ⟨⟨_, _, _, _, rfl⟩, s2, ?_⟩
          rw [usesN_succ, u0, rd_at er, u2]; rfl
    · rintro σ H' ⟨⟨v2, v3, v4, v5, rfl⟩, s', u'⟩
      rw [lrm] at u'
      exact qn H' s' u'
end
end Own

namespace Own
open PySem L2
section
variable {P : Program} {w : World} {K : PySem.W.Frag} {mg : Str → Option Value} {base : Heap}
seal PySem.wpAny
noncomputable abbrev sUnf : Stmt := top 12
theorem scUnf : FnScope ["many", "rules", "some", "now", "steps", "use"] ["many", "rules", "some"] (defScope sUnf) := ⟨rfl, rfl, rfl, by decide +kernel, rfl, by decide +kernel, by decide +kernel⟩
theorem ok_unf {f fBG fFU fUD : Addr} {fd fdBG fdFU fdUD : FuncData} (F : Fun K "unfolded" "unfolded" sUnf f fd) (GBG : FnOk P w K mg base CX0 2 fBG fdBG ["many", "some"] (spBegun K)) (mBG : mg "begun" = some (.ref fBG)) (kBG : PySem.W.keepIn K (.ref fBG) = true) (bBG : Binds K fdBG ["many", "some"] []) (GFU : FnOk P w K mg base CX0 2 fFU fdFU ["rules", "blocks"] (spFirstUse K)) (mFU : mg "first_use" = some (.ref fFU)) (kFU : PySem.W.keepIn K (.ref fFU) = true) (bFU : Binds K fdFU ["rules", "blocks"] []) (GUD : FnOk P w K mg base CX0 2 fUD fdUD ["rule", "fixed", "blocks", "at"] (spUsed K)) (mUD : mg "used" = some (.ref fUD)) (kUD : PySem.W.keepIn K (.ref fUD) = true) (bUD : Binds K fdUD ["rule", "fixed", "blocks", "at"] []) : FnOk P w K mg base CX0 3 f fd ["many", "rules", "some"] (spUnfolded K) := by
  refine F.ok scUnf (fun vs H Q E h => ?_) (fun cdv A outer s H vs Q E hr h => ?_)
  · obtain ⟨m, x, rl, rs, rfl, _⟩ := h
    rfl
  · obtain ⟨m, x, rl, rs, rfl, m7, hx, hrl, hRs, lr, qq⟩ := h
    have nd := scUnf.nd
    have hr2 : Room 2 _ := hr.mono (by decide)
    refine ⟨_, (pss_cons (ps_set (i := 3) nd rfl (Or.inl rfl) (pe_call GBG hr2 rfl mBG kBG bBG .nil pass0 (pa_cons (pv 0) (pa_cons (pv 2) pa_nil)))) (pss_cons (ps_set (i := 4) nd rfl (Or.inl rfl) (pe_lst pa_nil)) (pss_cut (fun σ H' => ∃ n, UInv H m x rl rs n σ H') (ps_set (i := 5) nd rfl (Or.inl rfl) (pe_call GFU hr2 rfl mFU kFU bFU .nil pass0 (pa_cons (pv 1) (pa_cons (pe_ix (ix_tupK (K := K) rfl) (pv 3) pe_int (fun _ _ => rfl)) pa_nil)))) (pss_cons (ps_while PassesOwn.never (pt_cmpR op_notN (pv 5) pe_non (nomark _)) (pss_cons (ps_expr (pe_bm PySem.F.plainAttrs_list PySem.F.slot_list_append PySem.F.type_list_append mt_append (pv 4) (pa_cons (pe_tup (pa_cons (pe_ix (ix_tupK (K := K) rfl) (pv 5) pe_int (fun _ _ => rfl)) (pa_cons (pe_ix (ix_listK (K := K) rfl) (pe_ix (ix_tupK (K := K) rfl) (pv 3) pe_int (fun _ _ => rfl)) (pe_ix (ix_tupK (K := K) rfl) (pv 5) pe_int (fun _ _ => rfl)) (fun _ _ => rfl)) pa_nil))) pa_nil)))
      (pss_cons (ps_set (i := 3) nd rfl (Or.inl rfl) (pe_call GUD hr2 rfl mUD kUD bUD .nil pass0 (pa_cons (pe_ix (ix_listK (K := K) rfl) (pv 1) (pe_ix (ix_tupK (K := K) rfl) (pv 5) pe_int (fun _ _ => rfl)) (fun _ _ => rfl)) (pa_cons (pe_ix (ix_tupK (K := K) rfl) (pv 3) pe_int (fun _ _ => rfl)) (pa_cons (pe_ix (ix_tupK (K := K) rfl) (pv 3) pe_int (fun _ _ => rfl)) (pa_cons (pe_ix (ix_tupK (K := K) rfl) (pv 5) pe_int (fun _ _ => rfl)) pa_nil))))))
      (pss_one (ps_set (i := 5) nd rfl (Or.inl rfl) (pe_call GFU hr2 rfl mFU kFU bFU .nil pass0 (pa_cons (pv 1) (pa_cons (pe_ix (ix_tupK (K := K) rfl) (pv 3) pe_int (fun _ _ => rfl)) pa_nil)))))))) (pss_one (ps_ret (pe_tup (pa_cons (pe_ix (ix_tupK (K := K) rfl) (pv 3) pe_int (fun _ _ => rfl)) (pa_cons (pe_ix (ix_tupK (K := K) rfl) (pv 3) pe_int (fun _ _ => rfl)) (pa_cons (pv 4) pa_nil)))))))))), ?_⟩
    refine ⟨_, rfl, _, rfl, m, x, rfl, m7, hx, fun t0 p0 H1 s1 ht0 ht1 hp0 hp1 => ?_⟩
    refine ⟨(by show 0 ≤ sizeLine; exact Nat.zero_le _), fun qa hqa => ?_⟩
    have c2 := UCore.begin (rs := rs) m7 hx s1 hp0 hp1 hqa
    have ht2 := Same.new (o := .lst []) hqa _ _ ht1
    generalize upd H1 qa (.lst []) = H2 at c2 ht2
    refine ⟨⟨_, rfl, _, rfl, t0, _, _, _, rfl, rfl, SqT.of ht2, atI_nat (j := 1) rfl, rl, p0, rs, beginBs m x, m, rfl, c2.same.seq hrl, hRs.same c2.same, SqL.of c2.hp, lr, (by have := c2.good.len m7; exact Nat.le_trans this (by decide)), fun H3 s3 hu => ?_, fun u us t5 H3 s3 hu ht5 ht5' => ?_⟩, ?_⟩
    · exact ⟨_, _, t0, p0, qa, [], .non, rfl, rfl, s3 _ _ ht2, c2.mono s3, .inl ⟨hu, rfl⟩⟩
    · exact ⟨_, _, t0, p0, qa, [], .ref t5, rfl, rfl, s3 _ _ ht2, c2.mono s3, .inr ⟨u, us, t5, hu, rfl, ht5'⟩⟩
    clear c2 ht2 ht1 hp1 hp0 ht0 s1 hqa
    rintro σ H3 ⟨n0, hinv⟩
    refine ⟨UInv H m x rl rs, ⟨n0, hinv⟩, ?_⟩
    rintro n _ H4 ⟨s, t, p, qa, sw, v, rfl, en, ht, c, hv⟩
    refine ⟨_, rfl, rfl, _, rfl, ?_⟩
    rcases hv with ⟨hu, rfl⟩ | ⟨u, us, t5, hu, rfl, ht5⟩
    · refine iteF ?_
      refine ⟨_, rfl, t, _, _, _, rfl, rfl, SqT.of ht, atI_nat (j := 0) rfl, _, rfl, t, _, _, _, rfl, rfl, SqT.of ht, atI_nat (j := 1) rfl, _, rfl, (by show 3 ≤ sizeLine; decide), fun tt htt => ?_⟩
      have s5 := Same.new (o := .tup [vN s.fx, V.ref p, V.ref qa]) htt
      have c5 := c.mono s5
      exact qq tt p qa s sw _ (c.run s (.done (by rw [rd_len]; exact hu))) c5.same (c.same.none htt) upd_same c5.hp0 c5.hp c5.hq0 c5.hq c5.st c5.est (by have := c5.slen; omega) c5.npq
    · refine iteT ?_
      refine ⟨_, fun _ _ h => h, ?_⟩
      obtain ⟨r, er, erd, hu2, ebu, hR⟩ := uses_at (rs := rs) (u := u) (by rw [hu]; exact List.mem_cons_self ..) (hRs.same c.same)
      have ebv : (s.bs.map vN)[u.2]? = some (vN (s.bs.getD u.2 0)) := by rw [List.getElem?_map, ebu]; rfl
      have erv : (rs.map fun r => V.ref r.r)[u.1]? = some (V.ref r.r) := by rw [List.getElem?_map, er]; rfl
      refine ⟨_, rfl, .inl ⟨rfl, _, SqL.of c.hq⟩, _, rfl, t5, _, _, _, rfl, rfl, SqT.of ht5, atI_nat (j := 0) rfl, _, rfl, t, _, _, _, rfl, rfl, SqT.of ht, atI_nat (j := 1) rfl, _, rfl, t5, _, _, _, rfl, rfl, SqT.of ht5, atI_nat (j := 1) rfl, p, _, _, _, rfl, rfl, SqL.of c.hp, atI_nat ebv, (by show 2 ≤ sizeLine; decide), fun w hw => ?_⟩
      have sw1 := Same.new (o := .tup [vN u.1, vN (s.bs.getD u.2 0)]) hw
      have c1 := c.mono sw1
      have hw1 : (upd H4 w (.tup [vN u.1, vN (s.bs.getD u.2 0)])) w = some (.tup [vN u.1, vN (s.bs.getD u.2 0)]) := upd_same
      have ht1 := sw1 _ _ ht
      have ht51 := sw1 _ _ ht5
      generalize upd H4 w (.tup [vN u.1, vN (s.bs.getD u.2 0)]) = H5 at sw1 c1 hw1 ht1 ht51
      refine ⟨qa, _, _, rfl, rfl, c1.hq, (by rw [List.length_map]; exact small1000 (by have := c1.slen; omega)), ?_⟩
      have sq : Same H (upd H5 qa (.lst ((sw.map fun w => V.ref w.1) ++ [V.ref w]))) := c1.same.own c1.hq0
      have ht2 : (upd H5 qa (.lst ((sw.map fun w => V.ref w.1) ++ [V.ref w]))) t = some (.tup [vN s.fx, .ref p]) := by rw [upd_ne (ne_of ht1 c1.hq (by intro z; cases z))]; exact ht1
      have ht52 : (upd H5 qa (.lst ((sw.map fun w => V.ref w.1) ++ [V.ref w]))) t5 = some (.tup [vN u.1, vN u.2]) := by rw [upd_ne (ne_of ht51 c1.hq (by intro z; cases z))]; exact ht51
      have hp2 : (upd H5 qa (.lst ((sw.map fun w => V.ref w.1) ++ [V.ref w]))) p = some (.lst (s.bs.map vN)) := by rw [upd_ne c1.npq]; exact c1.hp
      have hdis : s.fx &&& s.bs.getD u.2 0 = 0 := c.good.dis _ (List.mem_of_getElem? ebu)
      refine ⟨_, rfl, _, rfl, t5, _, _, _, rfl, rfl, SqT.of ht52, atI_nat (j := 0) rfl, rl, _, _, _, rfl, rfl, sq.seq hrl, atI_nat erv, _, rfl, t, _, _, _, rfl, rfl, SqT.of ht2, atI_nat (j := 0) rfl, _, rfl, t, _, _, _, rfl, rfl, SqT.of ht2, atI_nat (j := 1) rfl, _, rfl, t5, _, _, _, rfl, rfl, SqT.of ht52, atI_nat (j := 1) rfl, r.r, p, r.st, r.x, r.y, s.fx, u.2, s.bs, rfl, sq _ _ (hRs r (List.mem_of_getElem? er)).1, SqL.of hp2, hu2, (by have := c.good.len m7; omega), hdis, fun t' p' H6 s6 ht' ht6 hp' hp6 => ?_⟩
      have efx : (stepS (rs.map Rl.d) s u).fx = behindFx r.st r.y s.fx s.bs u.2 := by unfold stepS; rw [erd]; rfl
      have ebs : (stepS (rs.map Rl.d) s u).bs = behindBs r.st r.y s.bs u.2 := by unfold stepS; rw [erd]; rfl
      rw [← efx] at ht6
      rw [← ebs] at hp6
      obtain ⟨c6, mu⟩ := c1.next (w := (w, (u.1, s.bs.getD u.2 0))) hu rfl hw1 s6 hp' hp6
      refine ⟨_, rfl, _, rfl, t', _, _, _, rfl, rfl, SqT.of ht6, atI_nat (j := 1) rfl, rl, p', rs, (stepS (rs.map Rl.d) s u).bs, m, rfl, c6.same.seq hrl, hRs.same c6.same, SqL.of c6.hp, lr, (by have := c6.good.len m7; omega), fun H7 s7 hu' => ?_, fun u' us' t5' H7 s7 hu' ht7 ht7' => ?_⟩
      · exact ⟨_, by rw [en]; exact mu, _, t', p', qa, _, .non, rfl, rfl, s7 _ _ ht6, c6.mono s7, .inl ⟨hu', rfl⟩⟩
      · exact ⟨_, by rw [en]; exact mu, _, t', p', qa, _, .ref t5', rfl, rfl, s7 _ _ ht6, c6.mono s7, .inr ⟨u', us', t5', hu', rfl, ht7'⟩⟩
noncomputable abbrev sAgain : Stmt := top 14
theorem scAgain : FnScope ["many", "rules", "part", "some", "told", "gained", "pieces"] ["many", "rules", "part", "some"] (defScope sAgain) := ⟨rfl, rfl, rfl, by decide +kernel, rfl, by decide +kernel, by decide +kernel⟩
theorem ok_again {f fUN fIW : Addr} {fd fdUN fdIW : FuncData} (F : Fun K "told_again" "told_again" sAgain f fd) (GUN : FnOk P w K mg base CX0 3 fUN fdUN ["many", "rules", "some"] (spUnfolded K)) (mUN : mg "unfolded" = some (.ref fUN)) (kUN : PySem.W.keepIn K (.ref fUN) = true) (bUN : Binds K fdUN ["many", "rules", "some"] []) (GIW : FnOk P w K mg base CX0 1 fIW fdIW ["one", "other"] spWithin) (mIW : mg "is_within" = some (.ref fIW)) (kIW : PySem.W.keepIn K (.ref fIW) = true) (bIW : Binds K fdIW ["one", "other"] []) (zlen : mg "len" = none) : FnOk P w K mg base CX0 4 f fd ["many", "rules", "part", "some"] (spAgain K) := by
  refine F.ok scAgain (fun vs H Q E h => ?_) (fun cdv A outer s H vs Q E hr h => ?_)
  · obtain ⟨m, p, x, rl, rs, rfl, _⟩ := h
    rfl
  · obtain ⟨m, p, x, rl, rs, rfl, m7, hx, hrl, hRs, lr, q⟩ := h
    have nd := scAgain.nd
    have hr1 : Room 1 _ := hr.mono (by decide)
    have hr3 : Room 3 _ := hr.mono (by decide)
    refine ⟨_, (pss_cons (ps_set (i := 4) nd rfl (Or.inl rfl) (pe_call GUN hr3 rfl mUN kUN bUN .nil pass0 (pa_cons (pv 0) (pa_cons (pv 1) (pa_cons (pv 3) pa_nil)))))
      (pss_cons (ps_if (pt_val (pe_call GIW hr1 rfl mIW kIW bIW .nil pass0 (pa_cons (pv 2) (pa_cons (pe_ix (ix_tupK (K := K) rfl) (pv 4) pe_int (fun _ _ => rfl)) pa_nil)))) (pss_one (ps_ret pe_non)) pss_nil)
      (pss_cons (ps_set (i := 5) nd rfl (Or.inl rfl) (pe_op op_andInv (pe_op op_andN (pv 2) (pe_ix (ix_tupK (K := K) rfl) (pv 4) pe_int (fun _ _ => rfl))) (pe_un un_inv (pv 3))))
      (pss_cons (ps_if (pt_cmpR op_neN (pv 5) pe_int (nomark _)) (pss_one (ps_ret (pv 5))) pss_nil)
      (pss_cons (ps_comp (i := 6) (xs := ["block"]) (cs ["many", "rules", "part", "some", "told", "gained", "pieces"] (defScope sAgain) rfl rfl (by decide +kernel)) rfl nd rfl rfl (pi_listK (K := K) rfl (pe_ix (ix_tupK (K := K) rfl) (pv 4) pe_int (fun _ _ => rfl))) (fun _ _ _ => pg_name (i := 0) (show (["block", "many", "rules", "part", "some", "told", "gained", "pieces"] : List Str).Nodup by decide +kernel) rfl (Or.inl rfl)) (fun _ _ _ => (pts_one (pt_cmpR op_neN (pe_op op_andN (pv 0) (pv 3)) pe_int (nomark _)))) (fun _ _ _ => (pe_op op_andN (pv 0) (pv 3))))
      (pss_cons (ps_if (pt_cmpR op_gtN (pe_callB (call_lenK (K := K) rfl) (by rfl) zlen PySem.boot_len (pa_cons (pv 6) pa_nil)) pe_int (nomark _)) (pss_one (ps_ret (pe_ix (ix_listK (K := K) rfl) (pv 6) pe_int (fun _ _ => rfl)))) pss_nil)
      (pss_one (ps_ret pe_non)))))))), ?_⟩
    refine ⟨_, rfl, _, rfl, _, rfl, m, x, rl, rs, rfl, m7, hx, hrl, hRs, lr, fun t pb qb s sw H1 R s1 ht0 ht hp0 hp _ _ _ _ _ _ => ?_⟩
    have eU := R.unfF
    have G := (R.good (Good.begin hx)).1
    have ea : againN m (rs.map Rl.d) p x = if p &&& s.fx = p then none else if (p &&& s.fx) - ((p &&& s.fx) &&& x) ≠ 0 then some ((p &&& s.fx) - ((p &&& s.fx) &&& x)) else if 1 < (bitsIn p s.bs).length then (bitsIn p s.bs).head? else none := by
      unfold againN gainedN
      rw [eU]
    refine ⟨_, rfl, _, rfl, t, _, _, _, rfl, rfl, SqT.of ht, atI_nat (j := 0) rfl, p, s.fx, rfl, _, rfl, ite2 (fun hb => ?_) (fun hb => ?_)⟩
    · have z := q H1 s1
      rw [ea, if_pos (of_decide_eq_true hb)] at z
      exact z
    have n1 : ¬ p &&& s.fx = p := fun z => hb (decide_eq_true z)
    rw [if_neg n1] at ea
    refine ⟨_, rfl, _, rfl, t, _, _, _, rfl, rfl, SqT.of ht, atI_nat (j := 0) rfl, p, s.fx, rfl, rfl, _, rfl, (x : Int), rfl, p &&& s.fx, x, rfl, rfl, ?_⟩
    refine ⟨_, rfl, (p &&& s.fx) - ((p &&& s.fx) &&& x), 0, rfl, rfl, _, rfl, ite2 (fun hc => ?_) (fun hc => ?_)⟩
    · have n2 : (p &&& s.fx) - ((p &&& s.fx) &&& x) ≠ 0 := fun z => by rw [decide_eq_true z] at hc; cases hc
      have z := q H1 s1
      rw [ea, if_pos n2] at z
      exact ⟨_, rfl, z⟩
    have n2 : ¬ (p &&& s.fx) - ((p &&& s.fx) &&& x) ≠ 0 := fun z => hc (by rw [decide_eq_false z]; rfl)
    rw [if_neg n2] at ea
    have bl := G.len m7
    refine ⟨_, rfl, t, _, _, _, rfl, rfl, SqT.of ht, atI_nat (j := 1) rfl, pb, rfl, ⟨_, SqL.of hp⟩, lc_list (K := K) (xs := s.bs.map vN) (fun k acc H3 => H3 = H1 ∧ acc = (bitsIn p (s.bs.take k)).map vN) (by rw [List.length_map]; omega) ⟨rfl, rfl⟩ (fun k acc H3 hk h => ?_) (fun k u acc H3 hu h => ?_) (fun acc H3 h => ?_)⟩
    · obtain ⟨rfl, rfl⟩ := h
      exact ⟨SqL.of hp, by rw [List.length_map]; exact bitsIn_len p _ k⟩
    · obtain ⟨rfl, rfl⟩ := h
      rw [List.getElem?_map] at hu
      cases eb : s.bs[k]? with
      | none => rw [eb] at hu; cases hu
      | some b =>
        rw [eb] at hu
        obtain rfl := (Option.some.inj hu).symm
        refine ⟨rfl, _, rfl, _, rfl, b, p, rfl, rfl, b &&& p, 0, rfl, rfl, _, rfl, ite2 (fun hd => ?_) (fun hd => ?_)⟩
        · have z : ¬ b &&& p = 0 := fun z => by rw [decide_eq_true z] at hd; cases hd
          refine ⟨_, rfl, _, rfl, b, p, rfl, rfl, rfl, ?_⟩
          rw [bitsIn_succ eb, if_neg z, List.map_append]; rfl
        · have z : b &&& p = 0 := Classical.byContradiction fun z => hd (by rw [decide_eq_false z]; rfl)
          refine ⟨rfl, ?_⟩
          rw [bitsIn_succ eb, if_pos z, List.append_nil]
    · obtain ⟨rfl, rfl⟩ := h
      rw [List.length_map, List.take_length]
      intro lp hlp
      have sL := s1.trans (Same.new (o := .lst ((bitsIn p s.bs).map vN)) hlp)
      have hlp' : (upd H3 lp (.lst ((bitsIn p s.bs).map vN))) lp = some (.lst ((bitsIn p s.bs).map vN)) := upd_same
      have z := q _ sL
      generalize upd H3 lp (.lst ((bitsIn p s.bs).map vN)) = H4 at hlp' z
      rw [ea] at z
      refine ⟨_, rfl, lp, _, rfl, .inl (SqL.of hlp'), ((bitsIn p s.bs).map vN).length, 1, rfl, rfl, _, rfl, ite2 (fun he => ?_) (fun he => ?_)⟩
      · have he' := of_decide_eq_true he
        rw [List.length_map] at he'
        rw [if_pos he'] at z
        revert hlp' z he'
        match bitsIn p s.bs with
        | [] => intro _ _ h; exact absurd h (by decide)
        | g :: l =>
          intro hlp' z _
          exact ⟨_, rfl, lp, _, _, _, rfl, rfl, SqL.of hlp', atI_nat (j := 0) rfl, z⟩
      · have he' : ¬ 1 < (bitsIn p s.bs).length := fun w => he (decide_eq_true (by rw [List.length_map]; exact w))
        rw [if_neg he'] at z
        exact z
noncomputable abbrev sTwice : Stmt := top 15
theorem scTwice : FnScope ["many", "rules", "part", "level", "some", "again"] ["many", "rules", "part"] (defScope sTwice) := ⟨rfl, rfl, rfl, by decide +kernel, rfl, by decide +kernel, by decide +kernel⟩
theorem ok_twice {f fTA fMO : Addr} {fd fdTA fdMO : FuncData} (F : Fun K "twice" "twice" sTwice f fd) (GTA : FnOk P w K mg base CX0 4 fTA fdTA ["many", "rules", "part", "some"] (spAgain K)) (mTA : mg "told_again" = some (.ref fTA)) (kTA : PySem.W.keepIn K (.ref fTA) = true) (bTA : Binds K fdTA ["many", "rules", "part", "some"] []) (GMO : FnOk P w K mg base CX0 3 fMO fdMO ["sets", "some"] spOneUp) (mMO : mg "with_one_more" = some (.ref fMO)) (kMO : PySem.W.keepIn K (.ref fMO) = true) (bMO : Binds K fdMO ["sets", "some"] []) : FnOk P w K mg base CX0 5 f fd ["many", "rules", "part"] (spTwice K) := by
  refine F.ok scTwice (fun vs H Q E h => ?_) (fun cdv A outer s H vs Q E hr h => ?_)
  · obtain ⟨m, p, rl, rs, rfl, _⟩ := h
    rfl
  · obtain ⟨m, p, rl, rs, rfl, m7, hp, hrl, hRs, lr, q⟩ := h
    have nd := scTwice.nd
    have hr4 : Room 4 _ := hr.mono (by decide)
    have hr3 : Room 3 _ := hr.mono (by decide)
    have p7 : p < 128 := Nat.lt_of_lt_of_le hp (pow7 m7)
    refine ⟨_, (pss_cons (ps_set (i := 3) nd rfl (Or.inl rfl) (pe_lst (pa_cons pe_int pa_nil)))
      (pss_cons (ps_while PassesOwn.never (pt_cmpR (op_neLK (K := K) rfl hr.units) (pv 3) (pe_lst pa_nil) (nomark _)) (pss_cons (ps_for PassesOwn.never rfl (pi_listK (K := K) rfl (pv 3)) (pg_name (i := 4) nd rfl (Or.inl rfl)) (pss_cons (ps_set (i := 5) nd rfl (Or.inl rfl) (pe_call GTA hr4 rfl mTA kTA bTA .nil pass0 (pa_cons (pv 0) (pa_cons (pv 1) (pa_cons (pv 2) (pa_cons (pv 4) pa_nil))))))
      (pss_one (ps_if (pt_cmpR op_notN (pv 5) pe_non (nomark _)) (pss_one (ps_ret (pe_tup (pa_cons (pv 4) (pa_cons (pv 5) pa_nil))))) pss_nil))))
      (pss_one (ps_set (i := 3) nd rfl (Or.inl rfl) (pe_call GMO hr3 rfl mMO kMO bMO .nil pass0 (pa_cons (pv 3) (pa_cons (pv 2) pa_nil)))))))
      (pss_one (ps_ret pe_non)))), ?_⟩
    refine ⟨(by show 1 ≤ sizeLine; decide), fun l0 hl0 => ?_⟩
    have s1 := Same.new (o := .lst [V.int 0]) hl0
    have hl1 : (upd H l0 (.lst [V.int 0])) l0 = some (.lst ((rowN p 0).map vN)) := by rw [upd_same, row_zero p p7]; rfl
    refine ⟨fun n σ H' => ∃ (i : Nat) (lp : Addr) (v4 v5 : Option V), σ = [some (vN m), some (.ref rl), some (vN p), some (.ref lp), v4, v5] ∧ n = 8 - i ∧ i ≤ 8 ∧ Same H H' ∧ (dueM p i).findSome? (hitT m (rs.map Rl.d) p) = none ∧ H' lp = some (.lst ((rowN p i).map vN)), ⟨_, 0, l0, none, none, rfl, rfl, by omega, s1, rfl, hl1⟩, ?_⟩
    rintro n _ H1 ⟨i, lp, v4, v5, rfl, en, hi, s2, u0, hl2⟩
    have mi := map_int (rowN p i)
    refine ⟨_, rfl, Nat.zero_le _, fun np hnp => ?_⟩
    have sN := Same.new (o := .lst []) hnp
    refine ⟨lp, np, (rowN p i).map fun (k : Nat) => (k : Int), [], rfl, rfl, SqL.of (by rw [mi]; exact sN _ _ hl2), SqL.of upd_same, _, rfl, ?_⟩
    have hl3 := sN _ _ hl2
    have s3 := s2.trans sN
    generalize upd H1 np (.lst []) = H3 at hl3 s3
    rw [if_pos rfl]
    refine ite2 (fun hb => ?_) (fun hb => ?_)
    · have hne : rowN p i ≠ [] := fun z => by
        rw [z] at hb
        cases hb
      have hi8 : i < 8 := by
        rcases Nat.lt_or_ge i 8 with h | h
        · exact h
        · have : i = 8 := by omega
          rw [this, row_last p p7] at hne
          exact absurd rfl hne
      refine ⟨_, fun _ _ h => h, ?_⟩
      refine ⟨_, rfl, lp, rfl, ⟨_, SqL.of hl3⟩, for_list (K := K) (xs := (rowN p i).map vN) (fun j σ H' => (∃ v4 v5 : Option V, σ = [some (vN m), some (.ref rl), some (vN p), some (.ref lp), v4, v5]) ∧ Same H3 H' ∧ ((rowN p i).take j).findSome? (hitT m (rs.map Rl.d) p) = none) ⟨⟨_, _, rfl⟩, Same.refl _, rfl⟩ (fun j σ H' _ h => SqL.of (h.2.1 _ _ hl3)) ?_ ?_⟩
      · rintro j v σ H4 hv ⟨⟨v4, v5, rfl⟩, s4, u1⟩
        rw [List.getElem?_map] at hv
        cases ex : (rowN p i)[j]? with
        | none => rw [ex] at hv; cases hv
        | some x =>
          rw [ex] at hv
          obtain rfl := (Option.some.inj hv).symm
          have hx : x < 2 ^ m := by
            have h1 := row_sub (List.mem_of_getElem? ex)
            have h2 : x &&& p ≤ p := Nat.and_le_right
            rw [h1] at h2
            omega
          have s34 := s3.trans s4
          refine ⟨_, rfl, _, rfl, _, rfl, _, rfl, m, p, x, rl, rs, rfl, m7, hx, s34.seq hrl, hRs.same s34, lr, fun H5 s5 => ?_⟩
          cases eg : againN m (rs.map Rl.d) p x with
          | none =>
            refine ⟨_, rfl, rfl, _, rfl, iteF ?_⟩
            exact ⟨⟨_, _, rfl⟩, s4.trans s5, tw_miss u1 ex (by unfold hitT; rw [eg]; rfl)⟩
          | some g =>
            refine ⟨_, rfl, rfl, _, rfl, iteT ?_⟩
            refine ⟨_, rfl, _, rfl, (by show 2 ≤ sizeLine; decide), fun t ht => ?_⟩
            exact q _ _ ((s34.trans s5).trans (Same.new ht)) (by rw [tw_hit u0 u1 hi8 ex (u := (x, g)) (by unfold hitT; rw [eg]; rfl)]; exact ⟨t, rfl, upd_same⟩)
      · rintro σ H4 ⟨⟨v4, v5, rfl⟩, s4, u1⟩
        rw [List.length_map] at u1
        refine ⟨_, rfl, _, rfl, lp, p, i, rfl, p7, hi8, s4 _ _ hl3, fun l H5 s5 hl50 hl5 => ?_⟩
        exact ⟨8 - (i + 1), by omega, i + 1, l, _, _, rfl, rfl, by omega, (s3.trans s4).trans s5, tw_level u0 u1 (Nat.le_refl _), hl5⟩
    · have hz : rowN p i = [] := by
        cases z : rowN p i with
        | nil => rfl
        | cons x xs => exact absurd (by rw [z]; rfl) hb
      exact q _ _ s3 (by rw [tw_none p7 (by omega) u0 hz]; rfl)
end
end Own

namespace Own
open PySem L2
section
variable {P : Program} {w : World} {K : PySem.W.Frag} {mg : Str → Option Value} {base : Heap}
noncomputable abbrev sTake : Stmt := top 17
theorem scTake : FnScope ["_law_state", "_law_most", "_law_at", "_law_script", "_law_mingled"] ["_law_state", "_law_most"] (defScope sTake) := ⟨rfl, rfl, rfl, by decide +kernel, rfl, by decide +kernel, by decide +kernel⟩
theorem ok_take {f : Addr} {fd : FuncData} (F : Fun K "_law_take" "_law_take" sTake f fd) (zlen : mg "len" = none) : FnOk P w K mg base CX0 1 f fd ["_law_state", "_law_most"] (spTakeF K) := by
  refine F.ok scTake (fun vs H Q E h => ?_) (fun cdv A outer s H vs Q E hr h => ?_)
  · obtain ⟨st, ns, k, most, rfl, _⟩ := h
    rfl
  · obtain ⟨st, ns, k, most, rfl, ⟨sc, hst, hscF⟩, hk, hl, hm, q⟩ := h
    have nd := scTake.nd
    refine ⟨_, (pss_cons (ps_set (i := 2) nd rfl (Or.inl rfl) (pe_ix (ix_listK (K := K) rfl) (pv 0) pe_int (fun _ _ => rfl)))
      (pss_cons (ps_asg (pe_op op_add (pv 2) pe_int) (pg_sub (pv 0) pe_int set_list))
      (pss_cons (ps_set (i := 3) nd rfl (Or.inl rfl) (pe_ix (ix_listK (K := K) rfl) (pv 0) pe_int (fun _ _ => rfl)))
      (pss_cons (ps_if (pt_cmpR op_lt (pv 2) (pe_callB (call_lenK (K := K) rfl) (by rfl) zlen PySem.boot_len (pa_cons (pv 3) pa_nil)) (nomark _)) (pss_one (ps_ret (pe_op op_mod (pe_ix (ix_listK (K := K) rfl) (pv 3) (pv 2) (fun _ _ => rfl)) (pv 1)))) pss_nil)
      (pss_cons (ps_set (i := 4) nd rfl (Or.inl rfl) (pe_op op_add (pe_op op_add (pe_op op_mul (pv 2) (pv 2)) (pe_op op_mul pe_int (pv 2))) pe_int))
      (pss_cons (ps_if (pt_cmpR op_gt (pe_callB (call_lenK (K := K) rfl) (by rfl) zlen PySem.boot_len (pa_cons (pv 3) pa_nil)) pe_int (nomark _)) (pss_one (ps_set (i := 4) nd rfl (Or.inl rfl) (pe_op op_add (pv 4) (pe_op op_mul (pe_op op_mod (pe_ix (ix_listK (K := K) rfl) (pv 3) (pe_op op_mod (pe_op op_add (pe_op op_mul pe_int (pv 2)) pe_int) (pe_callB (call_lenK (K := K) rfl) (by rfl) zlen PySem.boot_len (pa_cons (pv 3) pa_nil))) (fun _ _ => rfl)) pe_int) pe_int)))) pss_nil)
      (pss_one (ps_ret (pe_op op_mod (pe_op op_mod (pe_op op_mul (pv 4) (pv 4)) pe_int) (pv 1)))))))))), ?_⟩
    refine ⟨_, rfl, st, _, _, _, rfl, rfl, SqL.of hst, atI_nat (j := 1) rfl, ?_⟩
    refine ⟨_, rfl, _, _, rfl, rfl, _, rfl, st, _, 1, 1, rfl, rfl, hst, rfl, ?_⟩
    have bt : But st H (upd H st (.lst [.ref sc, .int ((k : Int) + 1)])) := But.put st H _
    have hscF' : SqF K (upd H st (.lst [.ref sc, .int ((k : Int) + 1)])) sc ns := STF.seq hst hscF bt
    have hsc' := hscF'.sq
    have s' : L2.STF K (upd H st (.lst [.ref sc, .int ((k : Int) + 1)])) st ns (k + 1) := ⟨sc, by rw [upd_same]; rfl, hscF'⟩
    refine ⟨_, rfl, st, _, _, _, rfl, rfl, SqL.of upd_same, atI_nat (j := 0) rfl, ?_⟩
    have len1 : (ns.map V.int).length = ns.length := List.length_map ..
    refine ⟨_, rfl, _, rfl, sc, _, rfl, .inl hsc', _, _, rfl, rfl, _, rfl, ?_⟩
    refine ite2 (fun hc => ?_) (fun hc => ?_)
    · have hlt : k < ns.length := by
        have := of_decide_eq_true hc
        rw [len1] at this
        omega
      refine ⟨_, rfl, _, rfl, sc, _, _, _, rfl, rfl, hsc', atI_nat (j := k) (v := V.int ns[k]) (by simp [hlt]), _, rfl, _, _, rfl, rfl, hm, ?_⟩
      exact q _ _ (mod_lo _ hm) (mod_hi _ hm) s' bt
    · have kk0 : (0 : Int) ≤ (k : Int) * k := Int.mul_nonneg (by omega) (by omega)
      have kk1 : (k : Int) * k ≤ 1000000 * 1000000 := Int.mul_le_mul (by omega) (by omega) (by omega) (by omega)
      refine ⟨_, rfl, _, rfl, _, _, rfl, rfl, .inl ⟨by omega, by omega⟩, _, rfl, _, _, rfl, rfl, .inl ⟨by decide, by decide⟩, _, _, rfl, rfl, _, _, rfl, rfl, ?_⟩
      have fin : ∀ z : Int, 0 ≤ z → z < 1000000000000000000 → (tRet (tOp (rI (fun _ j => 0 < j) fun i j => V.int (i % j)) (tOp (rI (fun _ j => 0 < j) fun i j => V.int (i % j)) (tOp (rI CMul fun i j => V.int (i * j)) (tVar 4) (tVar 4)) (tC (.int 2147483647))) (tVar 1)))
          { nx := fun _ H' => Q .non H', rt := Q } [some (.ref st), some (.int most), some (.int k), some (.ref sc), some (.int z)] (upd H st (.lst [.ref sc, .int ((k : Int) + 1)])) := fun z z0 z1 =>
        ⟨_, rfl, _, rfl, _, _, rfl, rfl, .inl ⟨by omega, by omega⟩, _, _, rfl, rfl, (by show (0 : Int) < _; decide), _, rfl, _, _, rfl, rfl, hm, q _ _ (mod_lo _ hm) (mod_hi _ hm) s' bt⟩
      refine ⟨_, rfl, sc, _, rfl, .inl hsc', _, _, rfl, rfl, _, rfl, ?_⟩
      refine ite2 (fun hc2 => ?_) (fun hc2 => ?_)
      · have hpos : 0 < ns.length := by
          have := of_decide_eq_true hc2
          rw [len1] at this
          omega
        have hp' : (0 : Int) < ((ns.map V.int).length : Int) := by rw [len1]; omega
        obtain ⟨j, ej, hj⟩ : ∃ j : Nat, ((5 * (k : Int) + 2) % ((ns.map V.int).length : Int)) = (j : Int) ∧ j < ns.length := by
          have h1 := mod_lo (5 * (k : Int) + 2) hp'
          have h2 := mod_hi (5 * (k : Int) + 2) hp'
          rw [len1] at h1 h2 ⊢
          exact ⟨((5 * (k : Int) + 2) % (ns.length : Int)).toNat, by omega, by omega⟩
        have m0 := mod_lo ns[j] (show (0 : Int) < 2147483629 by decide)
        have m1 := mod_hi ns[j] (show (0 : Int) < 2147483629 by decide)
        refine ⟨_, rfl, _, rfl, _, rfl, _, _, rfl, rfl, .inl ⟨by decide, by decide⟩, _, _, rfl, rfl, _, rfl, sc, _, rfl, .inl hsc', _, _, rfl, rfl, hp', sc, _, _, _, rfl, rfl, hsc', (by rw [ej]; exact atI_nat (j := j) (v := V.int ns[j]) (by simp [hj])), _, _, rfl, rfl, (by show (0 : Int) < _; decide), _, _, rfl, rfl, .inr ⟨by decide, by decide⟩, _, _, rfl, rfl, ?_⟩
        exact fin _ (by omega) (by omega)
      · exact fin _ (by omega) (by omega)
noncomputable abbrev sSet : Stmt := top 18
theorem scSet : FnScope ["_law_state", "_law_many", "_law_way", "_law_some"] ["_law_state", "_law_many"] (defScope sSet) := ⟨rfl, rfl, rfl, by decide +kernel, rfl, by decide +kernel, by decide +kernel⟩
theorem ok_set {f fT : Addr} {fd fdT : FuncData} (F : Fun K "_law_set" "_law_set" sSet f fd) (GT : FnOk P w K mg base CX0 1 fT fdT ["_law_state", "_law_most"] (spTakeF K)) (mT : mg "_law_take" = some (.ref fT)) (kT : PySem.W.keepIn K (.ref fT) = true) (bT : Binds K fdT ["_law_state", "_law_most"] []) : FnOk P w K mg base CX0 2 f fd ["_law_state", "_law_many"] (spSetF K) := by
  refine F.ok scSet (fun vs H Q E h => ?_) (fun cdv A outer s H vs Q E hr h => ?_)
  · obtain ⟨st, ns, k, m, rfl, _⟩ := h
    rfl
  · obtain ⟨st, ns, k, m, rfl, S, hk, hl, hm1, hm7, q⟩ := h
    have nd := scSet.nd
    refine ⟨_, (pss_cons (ps_set (i := 2) nd rfl (Or.inl rfl) (pe_call GT hr rfl mT kT bT .nil pass0 (pa_cons (pv 0) (pa_cons pe_int pa_nil))))
      (pss_cons (ps_set (i := 3) nd rfl (Or.inl rfl) (pe_call GT hr rfl mT kT bT .nil pass0 (pa_cons (pv 0) (pa_cons (pe_op op_shl pe_int (pv 1)) pa_nil))))
      (pss_cons (ps_if (pt_cmpR op_eq (pv 2) pe_int (nomark _)) (pss_one (ps_ret (pe_op op_and (pv 3) (pe_call GT hr rfl mT kT bT .nil pass0 (pa_cons (pv 0) (pa_cons (pe_op op_shl pe_int (pv 1)) pa_nil)))))) pss_nil)
      (pss_cons (ps_if (pt_cmpR op_eq (pv 2) pe_int (nomark _)) (pss_one (ps_ret (pe_op op_or (pv 3) (pe_call GT hr rfl mT kT bT .nil pass0 (pa_cons (pv 0) (pa_cons (pe_op op_shl pe_int (pv 1)) pa_nil)))))) pss_nil)
      (pss_cons (ps_if (pt_cmpR op_eq (pv 2) pe_int (nomark _)) (pss_one (ps_ret (pe_op op_shl pe_int (pe_call GT hr rfl mT kT bT .nil pass0 (pa_cons (pv 0) (pa_cons (pv 1) pa_nil)))))) pss_nil)
      (pss_one (ps_ret (pv 3)))))))), ?_⟩
    have cp : CPow 1 (m : Int) := cpow1 (by omega)
    have e1 := shl1 m
    have pw : 0 < 2 ^ m := Nat.two_pow_pos m
    refine ⟨_, rfl, st, ns, k, 4, rfl, S, by omega, hl, by decide, fun r1 H1 a1 b1 S1 B1 => ?_⟩
    refine ⟨_, rfl, _, rfl, _, _, rfl, rfl, cp, st, ns, k + 1, _, rfl, S1, by omega, hl, by rw [e1]; omega, fun r2 H2 a2 b2 S2 B2 => ?_⟩
    rw [e1] at b2
    obtain ⟨n2, rfl, hn2⟩ := nat_of a2 b2
    have B12 := B1.trans B2
    refine ⟨_, rfl, rfl, _, rfl, ?_⟩
    refine ite2 (fun _ => ?_) (fun _ => ?_)
    · refine ⟨_, rfl, _, rfl, _, rfl, _, _, rfl, rfl, cp, st, ns, k + 2, _, rfl, S2, by omega, hl, by rw [e1]; omega, fun r3 H3 a3 b3 S3 B3 => ?_⟩
      rw [e1] at b3
      obtain ⟨n3, rfl, hn3⟩ := nat_of a3 b3
      refine ⟨_, _, rfl, rfl, ?_⟩
      show Q (V.int (Builtin.bitAnd (n2 : Int) (n3 : Int))) _
      rw [bitAnd_nat]
      exact q _ _ _ (and_lt hn2) (Nat.le_refl _) S3 (B12.trans B3)
    refine ⟨_, rfl, rfl, _, rfl, ?_⟩
    refine ite2 (fun _ => ?_) (fun _ => ?_)
    · refine ⟨_, rfl, _, rfl, _, rfl, _, _, rfl, rfl, cp, st, ns, k + 2, _, rfl, S2, by omega, hl, by rw [e1]; omega, fun r3 H3 a3 b3 S3 B3 => ?_⟩
      rw [e1] at b3
      obtain ⟨n3, rfl, hn3⟩ := nat_of a3 b3
      refine ⟨_, _, rfl, rfl, ?_⟩
      show Q (V.int (Builtin.bitOr (n2 : Int) (n3 : Int))) _
      rw [bitOr_nat]
      exact q _ _ _ (Nat.or_lt_two_pow hn2 hn3) (Nat.le_refl _) S3 (B12.trans B3)
    refine ⟨_, rfl, rfl, _, rfl, ?_⟩
    refine ite2 (fun _ => ?_) (fun _ => ?_)
    · refine ⟨_, rfl, _, rfl, st, ns, k + 2, (m : Int), rfl, S2, by omega, hl, by omega, fun r3 H3 a3 b3 S3 B3 => ?_⟩
      obtain ⟨n3, rfl, hn3⟩ := nat_of a3 b3
      refine ⟨_, _, rfl, rfl, cpow1 (by omega), ?_⟩
      show Q (V.int (1 * 2 ^ (n3 : Int).toNat)) _
      rw [shl1]
      exact q _ _ _ (Nat.pow_lt_pow_right (by decide) hn3) (Nat.le_refl _) S3 (B12.trans B3)
    · exact ⟨_, rfl, q _ _ _ hn2 (by omega) S2 B12⟩
noncomputable abbrev sHas2 : Stmt := top 19
theorem scHas2 : FnScope ["_law_some", "_law_k"] ["_law_some", "_law_k"] (defScope sHas2) := ⟨rfl, rfl, rfl, by decide +kernel, rfl, by decide +kernel, by decide +kernel⟩
theorem ok_has2 {f : Addr} {fd : FuncData} (F : Fun K "_law_has" "_law_has" sHas2 f fd) : FnOk P w K mg base CX0 1 f fd ["_law_some", "_law_k"] spHas2 := by
  refine F.ok scHas2 (fun vs H Q E h => ?_) (fun cdv A outer s H vs Q E hr h => ?_)
  · obtain ⟨a, k, rfl, _⟩ := h
    rfl
  · obtain ⟨a, k, rfl, hk, q⟩ := h
    refine ⟨_, (pss_one (ps_ret (pe_cmpR op_eqN (pe_op op_modN' (pe_op op_fdivN' (pv 0) (pe_op op_shl1 pe_int (pv 1))) pe_int) pe_int (nomark _)))), ?_⟩
    have hp2 : 0 < 2 ^ k := Nat.two_pow_pos k
    have hp3 : 2 ^ k ≤ 2 ^ 20 := Nat.pow_le_pow_right (by decide) hk
    exact ⟨_, rfl, _, rfl, k, rfl, rfl, by omega, a, 2 ^ k, rfl, rfl, ⟨hp2, by omega⟩, a / 2 ^ k, 2, rfl, rfl, (by show (0 : Nat) < 2; decide), a / 2 ^ k % 2, 1, rfl, rfl, q⟩
noncomputable abbrev sRules : Stmt := top 20
theorem scRules : FnScope ["_law_state", "_law_many", "_law_count", "_law_rules_here", "_law_k", "_law_word"] ["_law_state", "_law_many", "_law_count"] (defScope sRules) := ⟨rfl, rfl, rfl, by decide +kernel, rfl, by decide +kernel, by decide +kernel⟩
theorem ok_rules {f fT fS : Addr} {fd fdT fdS : FuncData} (F : Fun K "_law_rules" "_law_rules" sRules f fd) (GT : FnOk P w K mg base CX0 1 fT fdT ["_law_state", "_law_most"] (spTakeF K)) (mT : mg "_law_take" = some (.ref fT)) (kT : PySem.W.keepIn K (.ref fT) = true) (bT : Binds K fdT ["_law_state", "_law_most"] []) (GS : FnOk P w K mg base CX0 2 fS fdS ["_law_state", "_law_many"] (spSetF K)) (mS : mg "_law_set" = some (.ref fS)) (kS : PySem.W.keepIn K (.ref fS) = true) (bS : Binds K fdS ["_law_state", "_law_many"] []) (zrange : mg "range" = none) : FnOk P w K mg base CX0 3 f fd ["_law_state", "_law_many", "_law_count"] (spRules K) := by
  refine F.ok scRules (fun vs H Q E h => ?_) (fun cdv A outer s H vs Q E hr h => ?_)
  · obtain ⟨st, ns, k, m, n, rfl, _⟩ := h
    rfl
  · obtain ⟨st, ns, k, m, n, rfl, S, hk, hl, hm1, hm7, hn, q⟩ := h
    have nd := scRules.nd
    have hr1 : Room 1 _ := hr.mono (by decide)
    refine ⟨_, (pss_cons (ps_set (i := 3) nd rfl (Or.inl rfl) (pe_lst pa_nil))
      (pss_cons (ps_for PassesOwn.never rfl (pi_range1 rfl zrange (pa_cons (pv 2) pa_nil)) (pg_name (i := 4) nd rfl (Or.inl rfl)) (pss_cons (ps_set (i := 5) nd rfl (Or.inl rfl) (pe_ix (ix_listK (K := K) rfl) (pe_lst (pa_cons pe_str (pa_cons pe_str pa_nil))) (pe_call GT hr1 rfl mT kT bT .nil pass0 (pa_cons (pv 0) (pa_cons pe_int pa_nil))) (fun _ _ => rfl)))
      (pss_one (ps_expr (pe_bm PySem.F.plainAttrs_list PySem.F.slot_list_append PySem.F.type_list_append mt_append (pv 3) (pa_cons (pe_tup (pa_cons (pv 5) (pa_cons (pe_call GS hr rfl mS kS bS .nil pass0 (pa_cons (pv 0) (pa_cons (pv 1) pa_nil))) (pa_cons (pe_call GS hr rfl mS kS bS .nil pass0 (pa_cons (pv 0) (pa_cons (pv 1) pa_nil))) pa_nil)))) pa_nil))))))
      (pss_one (ps_ret (pv 3))))), ?_⟩
    refine ⟨(by show 0 ≤ sizeLine; exact Nat.zero_le _), fun g hg => ?_⟩
    obtain ⟨hgH, hgs⟩ := stf_fresh S (But.refl _ _) hg
    refine ⟨_, rfl, (n : Int), rfl, by omega, by omega, for_rangeN (n := n) (fun i σ H2 => (∃ v4 v5, σ = [some (.ref st), some (vN m), some (vN n), some (.ref g), v4, v5]) ∧
      ∃ (rs : List Rl) (k2 : Nat), rs.length = i ∧ (∀ r ∈ rs, RuleAt H2 r.r r.st r.x r.y ∧ r.x < 2 ^ m ∧ r.y < 2 ^ m) ∧ H2 g = some (.lst (rs.map fun r => V.ref r.r)) ∧ L2.STF K H2 st ns k2 ∧ k2 ≤ k + 7 * i ∧ But st H H2)
      ⟨⟨none, none, rfl⟩, [], k, rfl, (fun r h => absurd h List.not_mem_nil), upd_same, S.new hg, by omega, (But.refl _ _).own hgH⟩ ?_ ?_⟩
    · rintro i σ H2 hi ⟨⟨v4, v5, rfl⟩, rs, k2, hrl, hrs, hg2, S2, hk2, B2⟩
      refine ⟨(by show 2 ≤ sizeLine; decide), fun l hl2 => ?_⟩
      have sl := Same.new (o := .lst [V.str "settle", V.str "deal"]) hl2
      have hls : l ≠ st := (stf_fresh S2 (But.refl _ _) hl2).2
      refine ⟨_, rfl, st, ns, k2, 2, rfl, S2.new hl2, by omega, hl, by decide, fun r1 H3 a3 b3 S3 B3 => ?_⟩
      obtain ⟨n1, rfl, hn1⟩ := nat_of (n := 2) a3 b3
      have hl3 := B3 _ _ (show (upd H2 l (.lst [V.str "settle", V.str "deal"])) l = some (.lst [V.str "settle", V.str "deal"]) from upd_same) hls
      have B03 : But st H H3 := B2.trans ((But.new hl2).trans B3)
      obtain ⟨sb, esb⟩ : ∃ sb : Bool, ([V.str "settle", V.str "deal"] : List V)[n1]? = some (V.str (wordS sb)) := by
        match n1, hn1 with
        | 0, _ => exact ⟨true, rfl⟩
        | 1, _ => exact ⟨false, rfl⟩
      refine ⟨l, _, _, _, rfl, rfl, SqL.of hl3, atI_nat esb, ?_⟩
      have hg3 : H3 g = some (.lst (rs.map fun r => V.ref r.r)) := B3 _ _ (sl _ _ hg2) hgs
      have rk : ∀ r ∈ rs, RuleAt H3 r.r r.st r.x r.y := fun r hr' => stf_tup (S2.new hl2) B3 (sl _ _ (hrs r hr').1)
      refine ⟨_, rfl, .inl ⟨rfl, _, SqL.of hg3⟩, _, rfl, ?_⟩
      refine ⟨_, rfl, _, rfl, st, ns, k2 + 1, m, rfl, S3, by omega, hl, hm1, hm7, fun x k4 H4 hx hk4 S4 B4 => ?_⟩
      refine ⟨_, rfl, _, rfl, st, ns, k4, m, rfl, S4, by omega, hl, hm1, hm7, fun y k5 H5 hy hk5 S5 B5 => ?_⟩
      refine ⟨(by show 3 ≤ sizeLine; decide), fun t ht => ?_⟩
      have B05 := (B03.trans B4).trans B5
      have htH := stf_fresh S5 B05 ht
      have sn := Same.new (o := .tup [V.str (wordS sb), V.int (x : Int), V.int (y : Int)]) ht
      have hg5 := B5 _ _ (B4 _ _ hg3 hgs) hgs
      have hg6 := sn _ _ hg5
      refine ⟨g, _, _, rfl, rfl, hg6, by rw [List.length_map, hrl]; exact small1000 (by omega), ⟨_, _, rfl⟩, rs ++ [⟨t, sb, x, y⟩], k5, by rw [List.length_append, hrl]; rfl, fun r hr' => ?_, by rw [upd_same, List.map_append]; rfl, (S5.new ht).put hg6 hgs, by omega, (B05.trans (But.new ht)).own hgH⟩
      rcases List.mem_append.mp hr' with hr' | hr'
      · exact ⟨tup_put hg6 _ _ (sn _ _ (stf_tup S4 B5 (stf_tup S3 B4 (rk r hr')))), (hrs r hr').2⟩
      · rw [List.mem_singleton.mp hr']
        exact ⟨tup_put hg6 _ _ upd_same, hx, hy⟩
    · rintro σ H2 ⟨⟨v4, v5, rfl⟩, rs, k2, hrl, hrs, hg2, S2, hk2, B2⟩
      exact ⟨_, rfl, q rs g k2 _ hrl hrs hk2 hgH hg2 S2 B2⟩
noncomputable abbrev sTable : Stmt := top 21
theorem scTable : FnScope ["_law_state", "_law_many", "_law_count"] ["_law_state"] (defScope sTable) := ⟨rfl, rfl, rfl, by decide +kernel, rfl, by decide +kernel, by decide +kernel⟩
theorem ok_table {f fT fRU : Addr} {fd fdT fdRU : FuncData} (F : Fun K "_law_table" "_law_table" sTable f fd) (GT : FnOk P w K mg base CX0 1 fT fdT ["_law_state", "_law_most"] (spTakeF K)) (mT : mg "_law_take" = some (.ref fT)) (kT : PySem.W.keepIn K (.ref fT) = true) (bT : Binds K fdT ["_law_state", "_law_most"] []) (GRU : FnOk P w K mg base CX0 3 fRU fdRU ["_law_state", "_law_many", "_law_count"] (spRules K)) (mRU : mg "_law_rules" = some (.ref fRU)) (kRU : PySem.W.keepIn K (.ref fRU) = true) (bRU : Binds K fdRU ["_law_state", "_law_many", "_law_count"] []) : FnOk P w K mg base CX0 4 f fd ["_law_state"] (spTable60 K) := by
  refine F.ok scTable (fun vs H Q E h => ?_) (fun cdv A outer s H vs Q E hr h => ?_)
  · obtain ⟨st, ns, k, rfl, _⟩ := h
    rfl
  · obtain ⟨st, ns, k, rfl, S, hk, hl, q⟩ := h
    have nd := scTable.nd
    have hr1 : Room 1 _ := hr.mono (by decide)
    have hr3 : Room 3 _ := hr.mono (by decide)
    refine ⟨_, (pss_cons (ps_set (i := 1) nd rfl (Or.inl rfl) (pe_op op_addN pe_int (pe_call GT hr1 rfl mT kT bT .nil pass0 (pa_cons (pv 0) (pa_cons pe_int pa_nil))))) (pss_cut (fun σ H' => ∃ (m k' : Nat), σ = [some (.ref st), some (vN m), none] ∧ 1 ≤ m ∧ m ≤ 7 ∧ k' ≤ k + 3 ∧ L2.STF K H' st ns k' ∧ But st H H') (ps_if (pt_cmpR op_eqN (pe_call GT hr1 rfl mT kT bT .nil pass0 (pa_cons (pv 0) (pa_cons pe_int pa_nil))) pe_int (nomark _)) (pss_one (ps_set (i := 1) nd rfl (Or.inl rfl) (pe_op op_addN pe_int (pe_call GT hr1 rfl mT kT bT .nil pass0 (pa_cons (pv 0) (pa_cons pe_int pa_nil)))))) pss_nil) (pss_cons (ps_set (i := 2) nd rfl (Or.inl rfl) (pe_call GT hr1 rfl mT kT bT .nil pass0 (pa_cons (pv 0) (pa_cons pe_int pa_nil)))) (pss_cut (fun σ H' => ∃ (m c k' : Nat), σ = [some (.ref st), some (vN m), some (vN c)] ∧ 1 ≤ m ∧ m ≤ 7 ∧ c ≤ 12 ∧ k' ≤ k + 6 ∧ L2.STF K H' st ns k' ∧ But st H H') (ps_if (pt_cmpR op_eqN (pe_call GT hr1 rfl mT kT bT .nil pass0 (pa_cons (pv 0) (pa_cons pe_int pa_nil))) pe_int (nomark _)) (pss_one (ps_set (i := 2) nd rfl (Or.inl rfl) (pe_call GT hr1 rfl mT kT bT .nil pass0 (pa_cons (pv 0) (pa_cons pe_int pa_nil))))) pss_nil) (pss_one (ps_ret (pe_tup (pa_cons (pv 1) (pa_cons (pe_call GRU hr3 rfl mRU kRU bRU .nil pass0 (pa_cons (pv 0) (pa_cons (pv 1) (pa_cons (pv 2) pa_nil)))) pa_nil))))))))), ?_⟩
    refine ⟨_, rfl, st, ns, k, 5, rfl, S, by omega, hl, by decide, fun r1 H1 ar1 br1 Sr1 Br1 => ?_⟩
    obtain ⟨n1, rfl, hn1⟩ := nat_of (n := 5) ar1 br1
    refine ⟨1, n1, rfl, rfl, ?_⟩
    dsimp only
    refine ⟨⟨_, rfl, st, ns, (k + 1), 4, rfl, Sr1, by omega, hl, by decide, fun r2 H2 ar2 br2 Sr2 Br2 => ?_⟩, ?_⟩
    · obtain ⟨n2, rfl, hn2⟩ := nat_of (n := 4) ar2 br2
      refine ⟨n2, 0, rfl, rfl, _, rfl, ite2 (fun _ => ?_) (fun _ => ?_)⟩
      · refine ⟨_, rfl, st, ns, (k + 1 + 1), 7, rfl, Sr2, by omega, hl, by decide, fun r3 H3 ar3 br3 Sr3 Br3 => ?_⟩
        obtain ⟨n3, rfl, hn3⟩ := nat_of (n := 7) ar3 br3
        exact ⟨1, n3, rfl, rfl, 1 + n3, k + 1 + 1 + 1, rfl, by omega, by omega, by omega, Sr3, (Br1.trans Br2).trans Br3⟩
      · exact ⟨1 + n1, k + 1 + 1, rfl, by omega, by omega, by omega, Sr2, Br1.trans Br2⟩
    rintro _ H4 ⟨m, k4, rfl, m1, m7, hk4, S4, B4⟩
    refine ⟨_, rfl, st, ns, k4, 7, rfl, S4, by omega, hl, by decide, fun r5 H5 ar5 br5 Sr5 Br5 => ?_⟩
    obtain ⟨n5, rfl, hn5⟩ := nat_of (n := 7) ar5 br5
    refine ⟨⟨_, rfl, st, ns, (k4 + 1), 4, rfl, Sr5, by omega, hl, by decide, fun r6 H6 ar6 br6 Sr6 Br6 => ?_⟩, ?_⟩
    · obtain ⟨n6, rfl, hn6⟩ := nat_of (n := 4) ar6 br6
      refine ⟨n6, 0, rfl, rfl, _, rfl, ite2 (fun _ => ?_) (fun _ => ?_)⟩
      · refine ⟨_, rfl, st, ns, (k4 + 1 + 1), 13, rfl, Sr6, by omega, hl, by decide, fun r7 H7 ar7 br7 Sr7 Br7 => ?_⟩
        obtain ⟨n7, rfl, hn7⟩ := nat_of (n := 13) ar7 br7
        exact ⟨m, n7, k4 + 1 + 1 + 1, rfl, m1, m7, by omega, by omega, Sr7, ((B4.trans Br5).trans Br6).trans Br7⟩
      · exact ⟨m, n5, k4 + 1 + 1, rfl, m1, m7, by omega, by omega, Sr6, (B4.trans Br5).trans Br6⟩
    rintro _ H8 ⟨m, c, k8, rfl, m1, m7, hc, hk8, S8, B8⟩
    refine ⟨_, rfl, _, rfl, _, rfl, _, rfl, st, ns, k8, m, c, rfl, S8, by omega, hl, m1, m7, by omega, fun rs p k9 H9 lrs hrs hk9 hp0 hp9 S9 B9 => ?_⟩
    refine ⟨(by show 2 ≤ sizeLine; decide), fun t ht => ?_⟩
    have sn := Same.new (o := .tup [vN m, V.ref p]) ht
    exact q t p m rs k9 _ m1 m7 (by omega) (RulesAt.same hrs sn) upd_same (sn _ _ hp9) (stf_fresh S8 B8 hp0).1 (stf_fresh S8 (But.refl _ _) hp0).2 (by omega) (S9.same sn) ((B8.trans B9).trans sn.but)
end
end Own

namespace Own
open PySem L2
theorem SqF.ofT {K : PySem.W.Frag} {H : Hp} {a : Addr} {ns : List Int} {ts : List Addr} (hO : OnlyT ts H) (h : SqL K H a (ns.map V.int)) : SqF K H a ns := by
  rcases h with (h | ⟨o, h⟩) | h
  · by_cases z : a ∈ ts
    · rw [hO.1 a z] at h; cases h
    · rcases hO.2 a z with z | ⟨o, xs, z⟩
      · rw [h] at z; cases z
      · rw [h] at z; cases z
  · exact .inl ⟨o, h⟩
  · exact .inr h
theorem code_any {K : PySem.W.Frag} {P : Addr} (h : (K.any fun p => PySem.W.codeHdIn K p.1 P) = true) : ∃ c, PySem.W.codeHdIn K c P = true := by
  obtain ⟨p, _, e⟩ := List.any_eq_true.mp h
  exact ⟨p.1, e⟩
/-! what the top has written, and the law's own head -/
theorem all_mk {l : PySem.W.OpenLaw} {w : World} {K : PySem.W.Frag} {h : Heap} {mg : Str → Option Value} {fa fH fC fAL fIW fMO fCU fI fUD fBG fFU fUN fTA fTW fT fS fG fRU fTB fWI fTO fDU fRI fQ : Addr} (X : K.In h) (G : h.Ns mainGlobals mg) (hfa : mg "law" = some (.ref fa))
    {odH anH odC anC odAL anAL odIW anIW odMO anMO odCU anCU odI anI odUD anUD odBG anBG odFU anFU odUN anUN odTA anTA odTW anTW odT anT odS anS odG anG odRU anRU odTB anTB odWI anWI odTO anTO odDU anDU odRI anRI odQ anQ : Option Addr} {slH slC slAL slIW slMO slCU slI slUD slBG slFU slUN slTA slTW slT slS slG slRU slTB slWI slTO slDU slRI slQ : Array (Option Value)} {ocH kVH dcH pmH cdH ctH ocC kVC dcC pmC cdC ctC ocAL kVAL dcAL pmAL cdAL ctAL ocIW kVIW dcIW pmIW cdIW ctIW ocMO kVMO dcMO pmMO cdMO ctMO ocCU kVCU dcCU pmCU cdCU ctCU ocI kVI dcI pmI cdI ctI ocUD kVUD dcUD pmUD cdUD ctUD ocBG kVBG dcBG pmBG cdBG ctBG ocFU kVFU dcFU pmFU cdFU ctFU ocUN kVUN dcUN pmUN cdUN ctUN ocTA kVTA dcTA pmTA cdTA ctTA ocTW kVTW dcTW pmTW cdTW ctTW ocT kVT dcT pmT cdT ctT ocS kVS dcS pmS cdS ctS ocG kVG dcG pmG cdG ctG ocRU kVRU dcRU pmRU cdRU ctRU ocTB kVTB dcTB pmTB cdTB ctTB ocWI kVWI dcWI pmWI cdWI ctWI ocTO kVTO dcTO pmTO cdTO ctTO ocDU kVDU dcDU pmDU cdDU ctDU ocRI kVRI dcRI pmRI cdRI ctRI ocQ kVQ dcQ pmQ cdQ ctQ : Value}
    (aH : PySem.W.nsIn K mainGlobals "has_column" = some (some (.ref fH))) (lH : K.lookup fH = some ⟨ocH, odH, .func (PySem.W.fnOf "has_column" "has_column" (defArgs sHas) (defBody sHas) (defScope sHas) .none kVH dcH pmH anH cdH ctH), slH⟩) (cH : PySem.W.codeIn K cdH "has_column" = true) (kH : PySem.W.keepIn K (.ref fH) = true)
    (aC : PySem.W.nsIn K mainGlobals "columns_of" = some (some (.ref fC))) (lC : K.lookup fC = some ⟨ocC, odC, .func (PySem.W.fnOf "columns_of" "columns_of" (defArgs sCols) (defBody sCols) (defScope sCols) .none kVC dcC pmC anC cdC ctC), slC⟩) (cC : PySem.W.codeIn K cdC "columns_of" = true) (kC : PySem.W.keepIn K (.ref fC) = true)
    (aAL : PySem.W.nsIn K mainGlobals "all_of" = some (some (.ref fAL))) (lAL : K.lookup fAL = some ⟨ocAL, odAL, .func (PySem.W.fnOf "all_of" "all_of" (defArgs sAll) (defBody sAll) (defScope sAll) .none kVAL dcAL pmAL anAL cdAL ctAL), slAL⟩) (cAL : PySem.W.codeIn K cdAL "all_of" = true) (kAL : PySem.W.keepIn K (.ref fAL) = true)
    (aIW : PySem.W.nsIn K mainGlobals "is_within" = some (some (.ref fIW))) (lIW : K.lookup fIW = some ⟨ocIW, odIW, .func (PySem.W.fnOf "is_within" "is_within" (defArgs sWithin) (defBody sWithin) (defScope sWithin) .none kVIW dcIW pmIW anIW cdIW ctIW), slIW⟩) (cIW : PySem.W.codeIn K cdIW "is_within" = true) (kIW : PySem.W.keepIn K (.ref fIW) = true)
    (aMO : PySem.W.nsIn K mainGlobals "with_one_more" = some (some (.ref fMO))) (lMO : K.lookup fMO = some ⟨ocMO, odMO, .func (PySem.W.fnOf "with_one_more" "with_one_more" (defArgs sMore) (defBody sMore) (defScope sMore) .none kVMO dcMO pmMO anMO cdMO ctMO), slMO⟩) (cMO : PySem.W.codeIn K cdMO "with_one_more" = true) (kMO : PySem.W.keepIn K (.ref fMO) = true)
    (aCU : PySem.W.nsIn K mainGlobals "can_use" = some (some (.ref fCU))) (lCU : K.lookup fCU = some ⟨ocCU, odCU, .func (PySem.W.fnOf "can_use" "can_use" (defArgs sCanUse) (defBody sCanUse) (defScope sCanUse) .none kVCU dcCU pmCU anCU cdCU ctCU), slCU⟩) (cCU : PySem.W.codeIn K cdCU "can_use" = true) (kCU : PySem.W.keepIn K (.ref fCU) = true)
    (aI : PySem.W.nsIn K mainGlobals "listed" = some (some (.ref fI))) (lI : K.lookup fI = some ⟨ocI, odI, .func (PySem.W.fnOf "listed" "listed" (defArgs sListed) (defBody sListed) (defScope sListed) .none kVI dcI pmI anI cdI ctI), slI⟩) (cI : PySem.W.codeIn K cdI "listed" = true) (kI : PySem.W.keepIn K (.ref fI) = true)
    (aUD : PySem.W.nsIn K mainGlobals "used" = some (some (.ref fUD))) (lUD : K.lookup fUD = some ⟨ocUD, odUD, .func (PySem.W.fnOf "used" "used" (defArgs sUsed) (defBody sUsed) (defScope sUsed) .none kVUD dcUD pmUD anUD cdUD ctUD), slUD⟩) (cUD : PySem.W.codeIn K cdUD "used" = true) (kUD : PySem.W.keepIn K (.ref fUD) = true)
    (aBG : PySem.W.nsIn K mainGlobals "begun" = some (some (.ref fBG))) (lBG : K.lookup fBG = some ⟨ocBG, odBG, .func (PySem.W.fnOf "begun" "begun" (defArgs sBegun) (defBody sBegun) (defScope sBegun) .none kVBG dcBG pmBG anBG cdBG ctBG), slBG⟩) (cBG : PySem.W.codeIn K cdBG "begun" = true) (kBG : PySem.W.keepIn K (.ref fBG) = true)
    (aFU : PySem.W.nsIn K mainGlobals "first_use" = some (some (.ref fFU))) (lFU : K.lookup fFU = some ⟨ocFU, odFU, .func (PySem.W.fnOf "first_use" "first_use" (defArgs sFirst) (defBody sFirst) (defScope sFirst) .none kVFU dcFU pmFU anFU cdFU ctFU), slFU⟩) (cFU : PySem.W.codeIn K cdFU "first_use" = true) (kFU : PySem.W.keepIn K (.ref fFU) = true)
    (aUN : PySem.W.nsIn K mainGlobals "unfolded" = some (some (.ref fUN))) (lUN : K.lookup fUN = some ⟨ocUN, odUN, .func (PySem.W.fnOf "unfolded" "unfolded" (defArgs sUnf) (defBody sUnf) (defScope sUnf) .none kVUN dcUN pmUN anUN cdUN ctUN), slUN⟩) (cUN : PySem.W.codeIn K cdUN "unfolded" = true) (kUN : PySem.W.keepIn K (.ref fUN) = true)
    (aTA : PySem.W.nsIn K mainGlobals "told_again" = some (some (.ref fTA))) (lTA : K.lookup fTA = some ⟨ocTA, odTA, .func (PySem.W.fnOf "told_again" "told_again" (defArgs sAgain) (defBody sAgain) (defScope sAgain) .none kVTA dcTA pmTA anTA cdTA ctTA), slTA⟩) (cTA : PySem.W.codeIn K cdTA "told_again" = true) (kTA : PySem.W.keepIn K (.ref fTA) = true)
    (aTW : PySem.W.nsIn K mainGlobals "twice" = some (some (.ref fTW))) (lTW : K.lookup fTW = some ⟨ocTW, odTW, .func (PySem.W.fnOf "twice" "twice" (defArgs sTwice) (defBody sTwice) (defScope sTwice) .none kVTW dcTW pmTW anTW cdTW ctTW), slTW⟩) (cTW : PySem.W.codeIn K cdTW "twice" = true) (kTW : PySem.W.keepIn K (.ref fTW) = true)
    (aT : PySem.W.nsIn K mainGlobals "_law_take" = some (some (.ref fT))) (lT : K.lookup fT = some ⟨ocT, odT, .func (PySem.W.fnOf "_law_take" "_law_take" (defArgs sTake) (defBody sTake) (defScope sTake) .none kVT dcT pmT anT cdT ctT), slT⟩) (cT : PySem.W.codeIn K cdT "_law_take" = true) (kT : PySem.W.keepIn K (.ref fT) = true)
    (aS : PySem.W.nsIn K mainGlobals "_law_set" = some (some (.ref fS))) (lS : K.lookup fS = some ⟨ocS, odS, .func (PySem.W.fnOf "_law_set" "_law_set" (defArgs sSet) (defBody sSet) (defScope sSet) .none kVS dcS pmS anS cdS ctS), slS⟩) (cS : PySem.W.codeIn K cdS "_law_set" = true) (kS : PySem.W.keepIn K (.ref fS) = true)
    (aG : PySem.W.nsIn K mainGlobals "_law_has" = some (some (.ref fG))) (lG : K.lookup fG = some ⟨ocG, odG, .func (PySem.W.fnOf "_law_has" "_law_has" (defArgs sHas2) (defBody sHas2) (defScope sHas2) .none kVG dcG pmG anG cdG ctG), slG⟩) (cG : PySem.W.codeIn K cdG "_law_has" = true) (kG : PySem.W.keepIn K (.ref fG) = true)
    (aRU : PySem.W.nsIn K mainGlobals "_law_rules" = some (some (.ref fRU))) (lRU : K.lookup fRU = some ⟨ocRU, odRU, .func (PySem.W.fnOf "_law_rules" "_law_rules" (defArgs sRules) (defBody sRules) (defScope sRules) .none kVRU dcRU pmRU anRU cdRU ctRU), slRU⟩) (cRU : PySem.W.codeIn K cdRU "_law_rules" = true) (kRU : PySem.W.keepIn K (.ref fRU) = true)
    (aTB : PySem.W.nsIn K mainGlobals "_law_table" = some (some (.ref fTB))) (lTB : K.lookup fTB = some ⟨ocTB, odTB, .func (PySem.W.fnOf "_law_table" "_law_table" (defArgs sTable) (defBody sTable) (defScope sTable) .none kVTB dcTB pmTB anTB cdTB ctTB), slTB⟩) (cTB : PySem.W.codeIn K cdTB "_law_table" = true) (kTB : PySem.W.keepIn K (.ref fTB) = true)
    (aWI : PySem.W.nsIn K mainGlobals "_law_within" = some (some (.ref fWI))) (lWI : K.lookup fWI = some ⟨ocWI, odWI, .func (PySem.W.fnOf "_law_within" "_law_within" (defArgs sWit) (defBody sWit) (defScope sWit) .none kVWI dcWI pmWI anWI cdWI ctWI), slWI⟩) (cWI : PySem.W.codeIn K cdWI "_law_within" = true) (kWI : PySem.W.keepIn K (.ref fWI) = true)
    (aTO : PySem.W.nsIn K mainGlobals "_law_told" = some (some (.ref fTO))) (lTO : K.lookup fTO = some ⟨ocTO, odTO, .func (PySem.W.fnOf "_law_told" "_law_told" (defArgs sTold) (defBody sTold) (defScope sTold) .none kVTO dcTO pmTO anTO cdTO ctTO), slTO⟩) (cTO : PySem.W.codeIn K cdTO "_law_told" = true) (kTO : PySem.W.keepIn K (.ref fTO) = true)
    (aDU : PySem.W.nsIn K mainGlobals "_law_due" = some (some (.ref fDU))) (lDU : K.lookup fDU = some ⟨ocDU, odDU, .func (PySem.W.fnOf "_law_due" "_law_due" (defArgs sDue) (defBody sDue) (defScope sDue) .none kVDU dcDU pmDU anDU cdDU ctDU), slDU⟩) (cDU : PySem.W.codeIn K cdDU "_law_due" = true) (kDU : PySem.W.keepIn K (.ref fDU) = true)
    (aRI : PySem.W.nsIn K mainGlobals "_law_right" = some (some (.ref fRI))) (lRI : K.lookup fRI = some ⟨ocRI, odRI, .func (PySem.W.fnOf "_law_right" "_law_right" (defArgs sRight) (defBody sRight) (defScope sRight) .none kVRI dcRI pmRI anRI cdRI ctRI), slRI⟩) (cRI : PySem.W.codeIn K cdRI "_law_right" = true) (kRI : PySem.W.keepIn K (.ref fRI) = true)
    (aQ : PySem.W.nsIn K mainGlobals "law" = some (some (.ref fQ))) (lQ : K.lookup fQ = some ⟨ocQ, odQ, .func (PySem.W.fnOf "law" "law" (defArgs sLaw) (defBody sLaw) (defScope sLaw) .none kVQ dcQ pmQ anQ cdQ ctQ), slQ⟩) (cQ : PySem.W.codeIn K cdQ "law" = true) (kQ : PySem.W.keepIn K (.ref fQ) = true)
    
     {cc PT : Addr} (gWI : cdWI = .ref cc) (hWI : PySem.W.codeHdIn K cc PT = true)
    (ylen : PySem.W.nsIn K mainGlobals "len" = some none) (yrange : PySem.W.nsIn K mainGlobals "range" = some none) (yenumerate : PySem.W.nsIn K mainGlobals "enumerate" = some none) (ylist : PySem.W.nsIn K mainGlobals "list" = some none) (yint : PySem.W.nsIn K mainGlobals "int" = some none) (yisinstance : PySem.W.nsIn K mainGlobals "isinstance" = some none) (ytuple : PySem.W.nsIn K mainGlobals "tuple" = some none) (ybool : PySem.W.nsIn K mainGlobals "bool" = some none) (ysorted : PySem.W.nsIn K mainGlobals "sorted" = some none) :
    ∃ fd : FuncData, (∀ (s : Shared) (v : Value), BindsTo s fd ⟨[v], []⟩ [("_law_script", v)]) ∧ ∀ base : Heap, K.In base → base.Ns mainGlobals mg → BMod mg base → FnOk l.prog w K mg base CX0 7 fa fd ["_law_script"] (spLawT K [PT]) := by
  have e := hfa.symm.trans (PySem.W.mg_of X G aQ)
  cases e
  have FH := fun_mk (st := sHas) lH cH kH
  have mH := PySem.W.mg_of X G aH
  have bH := FH.binds (ps := ["some", "column"]) fun _ _ _ _ _ _ us hl => match us, hl with | [_, _], _ => rfl
  have FC := fun_mk (st := sCols) lC cC kC
  have mC := PySem.W.mg_of X G aC
  have bC := FC.binds (ps := ["some"]) fun _ _ _ _ _ _ us hl => match us, hl with | [_], _ => rfl
  have FAL := fun_mk (st := sAll) lAL cAL kAL
  have mAL := PySem.W.mg_of X G aAL
  have bAL := FAL.binds (ps := ["many"]) fun _ _ _ _ _ _ us hl => match us, hl with | [_], _ => rfl
  have FIW := fun_mk (st := sWithin) lIW cIW kIW
  have mIW := PySem.W.mg_of X G aIW
  have bIW := FIW.binds (ps := ["one", "other"]) fun _ _ _ _ _ _ us hl => match us, hl with | [_, _], _ => rfl
  have FMO := fun_mk (st := sMore) lMO cMO kMO
  have mMO := PySem.W.mg_of X G aMO
  have bMO := FMO.binds (ps := ["sets", "some"]) fun _ _ _ _ _ _ us hl => match us, hl with | [_, _], _ => rfl
  have FCU := fun_mk (st := sCanUse) lCU cCU kCU
  have mCU := PySem.W.mg_of X G aCU
  have bCU := FCU.binds (ps := ["rule", "block"]) fun _ _ _ _ _ _ us hl => match us, hl with | [_, _], _ => rfl
  have FI := fun_mk (st := sListed) lI cI kI
  have mI := PySem.W.mg_of X G aI
  have bI := FI.binds (ps := ["block"]) fun _ _ _ _ _ _ us hl => match us, hl with | [_], _ => rfl
  have FUD := fun_mk (st := sUsed) lUD cUD kUD
  have mUD := PySem.W.mg_of X G aUD
  have bUD := FUD.binds (ps := ["rule", "fixed", "blocks", "at"]) fun _ _ _ _ _ _ us hl => match us, hl with | [_, _, _, _], _ => rfl
  have FBG := fun_mk (st := sBegun) lBG cBG kBG
  have mBG := PySem.W.mg_of X G aBG
  have bBG := FBG.binds (ps := ["many", "some"]) fun _ _ _ _ _ _ us hl => match us, hl with | [_, _], _ => rfl
  have FFU := fun_mk (st := sFirst) lFU cFU kFU
  have mFU := PySem.W.mg_of X G aFU
  have bFU := FFU.binds (ps := ["rules", "blocks"]) fun _ _ _ _ _ _ us hl => match us, hl with | [_, _], _ => rfl
  have FUN := fun_mk (st := sUnf) lUN cUN kUN
  have mUN := PySem.W.mg_of X G aUN
  have bUN := FUN.binds (ps := ["many", "rules", "some"]) fun _ _ _ _ _ _ us hl => match us, hl with | [_, _, _], _ => rfl
  have FTA := fun_mk (st := sAgain) lTA cTA kTA
  have mTA := PySem.W.mg_of X G aTA
  have bTA := FTA.binds (ps := ["many", "rules", "part", "some"]) fun _ _ _ _ _ _ us hl => match us, hl with | [_, _, _, _], _ => rfl
  have FTW := fun_mk (st := sTwice) lTW cTW kTW
  have mTW := PySem.W.mg_of X G aTW
  have bTW := FTW.binds (ps := ["many", "rules", "part"]) fun _ _ _ _ _ _ us hl => match us, hl with | [_, _, _], _ => rfl
  have FT := fun_mk (st := sTake) lT cT kT
  have mT := PySem.W.mg_of X G aT
  have bT := FT.binds (ps := ["_law_state", "_law_most"]) fun _ _ _ _ _ _ us hl => match us, hl with | [_, _], _ => rfl
  have FS := fun_mk (st := sSet) lS cS kS
  have mS := PySem.W.mg_of X G aS
  have bS := FS.binds (ps := ["_law_state", "_law_many"]) fun _ _ _ _ _ _ us hl => match us, hl with | [_, _], _ => rfl
  have FG := fun_mk (st := sHas2) lG cG kG
  have mG := PySem.W.mg_of X G aG
  have bG := FG.binds (ps := ["_law_some", "_law_k"]) fun _ _ _ _ _ _ us hl => match us, hl with | [_, _], _ => rfl
  have FRU := fun_mk (st := sRules) lRU cRU kRU
  have mRU := PySem.W.mg_of X G aRU
  have bRU := FRU.binds (ps := ["_law_state", "_law_many", "_law_count"]) fun _ _ _ _ _ _ us hl => match us, hl with | [_, _, _], _ => rfl
  have FTB := fun_mk (st := sTable) lTB cTB kTB
  have mTB := PySem.W.mg_of X G aTB
  have bTB := FTB.binds (ps := ["_law_state"]) fun _ _ _ _ _ _ us hl => match us, hl with | [_], _ => rfl
  have FWI := fun_mk (st := sWit) lWI cWI kWI
  have mWI := PySem.W.mg_of X G aWI
  have bWI := FWI.binds (ps := ["_law_many", "_law_part"]) fun _ _ _ _ _ _ us hl => match us, hl with | [_, _], _ => rfl
  have FTO := fun_mk (st := sTold) lTO cTO kTO
  have mTO := PySem.W.mg_of X G aTO
  have bTO := FTO.binds (ps := ["_law_part", "_law_some", "_law_told_here"]) fun _ _ _ _ _ _ us hl => match us, hl with | [_, _, _], _ => rfl
  have FDU := fun_mk (st := sDue) lDU cDU kDU
  have mDU := PySem.W.mg_of X G aDU
  have bDU := FDU.binds (ps := ["_law_many", "_law_part", "_law_table_here"]) fun _ _ _ _ _ _ us hl => match us, hl with | [_, _, _], _ => rfl
  have FRI := fun_mk (st := sRight) lRI cRI kRI
  have mRI := PySem.W.mg_of X G aRI
  have bRI := FRI.binds (ps := ["_law_found", "_law_due_here"]) fun _ _ _ _ _ _ us hl => match us, hl with | [_, _], _ => rfl
  have FQ := fun_mk (st := sLaw) lQ cQ kQ
  have mQ := PySem.W.mg_of X G aQ
  have zlen := PySem.W.mg_none_of X G ylen
  have zrange := PySem.W.mg_none_of X G yrange
  have zenumerate := PySem.W.mg_none_of X G yenumerate
  have zlist := PySem.W.mg_none_of X G ylist
  have zint := PySem.W.mg_none_of X G yint
  have zisinstance := PySem.W.mg_none_of X G yisinstance
  have ztuple := PySem.W.mg_none_of X G ytuple
  have zbool := PySem.W.mg_none_of X G ybool
  have zsorted := PySem.W.mg_none_of X G ysorted
  refine ⟨PySem.W.fnOf "law" "law" (defArgs sLaw) (defBody sLaw) (defScope sLaw) .none kVQ dcQ pmQ anQ cdQ ctQ, fun s v => .of_eq rfl, fun base KB _ hbm => ?_⟩
  have GH := ok_has (P := l.prog) (w := w) (mg := mg) (base := base) FH
  have GC := ok_cols FC GH mH kH bH zrange
  have GAL := ok_all (P := l.prog) (w := w) (mg := mg) (base := base) FAL
  have GIW := ok_within (P := l.prog) (w := w) (mg := mg) (base := base) FIW
  have GMO := ok_more FMO GC mC kC bC zsorted
  have GCU := ok_canuse (P := l.prog) (w := w) (mg := mg) (base := base) FCU
  have GI := ok_listed (P := l.prog) (w := w) (mg := mg) (base := base) FI
  have GUD := ok_used FUD GI mI kI bI
  have GBG := ok_begun FBG GI mI kI bI GAL mAL kAL bAL
  have GFU := ok_first FFU GCU mCU kCU bCU zenumerate
  have GUN := ok_unf FUN GBG mBG kBG bBG GFU mFU kFU bFU GUD mUD kUD bUD
  have GTA := ok_again FTA GUN mUN kUN bUN GIW mIW kIW bIW zlen
  have GTW := ok_twice FTW GTA mTA kTA bTA GMO mMO kMO bMO
  have GT := ok_take (P := l.prog) (w := w) (base := base) FT zlen
  have GS := ok_set FS GT mT kT bT
  have GG := ok_has2 (P := l.prog) (w := w) (mg := mg) (base := base) FG
  have GRU := ok_rules FRU GT mT kT bT GS mS kS bS zrange
  have GTB := ok_table FTB GT mT kT bT GRU mRU kRU bRU
  have GWI := ok_wit FWI gWI (PySem.W.codeHd_of_K KB hWI) hbm GG mG kG bG zrange zlen zsorted
  have GTO := ok_told (P := l.prog) (w := w) (base := base) FTO zlen
  have GDU := ok_due FDU GWI mWI kWI bWI GTO mTO kTO bTO
  have GRI := ok_right (P := l.prog) (w := w) (base := base) FRI zisinstance ztuple zlen zbool
  exact ok_law FQ GTB mTB kTB bTB GUN mUN kUN bUN GS mS kS bS GDU mDU kDU bDU GRI mRI kRI bRI GTW mTW kTW bTW zlist zrange zint
theorem walk {l : PySem.W.OpenLaw} {PT : Addr} {q : Program} {loose : List Str} {XP : (Str → Option Value) → Heap → Prop} {YP : World → Heap → Prop} {d : DefRec} {K : Params → PySem.W.Frag} (hn : l.most = some 63) (hdf : d.params.defaults = [])
    (hY : ∀ (w : World) (h : Heap), YP w h → (K w.params).In h) (hT : ∀ (w : World) (h : Heap), YP w h → ∀ P ∈ [PT], h.get? P = some (PySem.W.tabObj #[])) (hC : ∀ (w : World), ∀ P ∈ [PT], ∃ c, PySem.W.codeHdIn (K w.params) c P = true) (hNo : ∀ w : World, PySem.W.noTabs (K w.params) = true)
    (F : ∀ (w : World) (mg : Str → Option Value) (fa : Addr) (h : Heap), (K w.params).In h → h.Ns mainGlobals mg → mg d.name = some (.ref fa) →
      ∃ fd : FuncData, (∀ (s : Shared) (u : Value), BindsTo s fd ⟨[u], []⟩ [("_law_script", u)]) ∧ ∀ base : Heap, (K w.params).In base → base.Ns mainGlobals mg → BMod mg base → FnOk l.prog w (K w.params) mg base CX0 7 fa fd ["_law_script"] (spLawT (K w.params) [PT])) :
    PySem.W.WalkO q loose XP YP l.row.toRowW d [] (fun f vs => PySem.call f vs) :=
  L2.walk_ofT (n := 63) (k := 7) (x := "_law_script") (CX := fun _ => CX0) (sp := fun w => spLawT (K w.params) [PT]) hn (by decide) hdf ⟨rfl, by decide, by decide⟩ hY hT hC hNo F (fun _ _ a ns hl hO hS => ⟨a, ns, rfl, SqF.ofT hO hS, hl, hO.1, fun _ => rfl⟩) fun _ _ _ _ _ z => z
end Own
/-! names laid ahead, so that the head makes no twins of heaps, trees and the whole text: its own evaluation is quick without them -/
noncomputable def PySem.W.Fast.tw11580851225462151517 : Unit := ()
noncomputable def PySem.W.Fast.tw10547848497242701073 : Unit := ()
noncomputable def PySem.W.Fast.tw14356232974092488056 : Unit := ()
noncomputable def PySem.W.Fast.tw12878596050092200927 : Unit := ()
noncomputable def PySem.W.Fast.tw17601501663804683860 : Unit := ()
open PySem PySem.W PyProof.Rows
set_option maxRecDepth 100000 in
set_option maxHeartbeats 0 in
theorem PySem.Challenge.cw_splithouse_k60_told_twice_holds : PySem.Challenge.rw_splithouse_k60_told_twice.Holds := by
  w_on; o_law; k_head; (case hw => w_witness2)
  k_fill
  refine Own.walk (l := PySem.Challenge.rw_splithouse_k60_told_twice) rfl rfl (fun w h Y => PySem.W.km_in_of Y) (fun w h Y => PySem.W.km_tabs_of Y) ?hct ?hnt ?F
  case hnt => exact fun w => by kernel_rfl
  case hct => intro w P hP; rcases List.mem_cons.mp hP with rfl | hP; exact Own.code_any (by kernel_rfl); cases hP
  case F =>
    intro w mg fa h KX G hmg
    refine' Own.all_mk KX G hmg ?aH ?lH ?cH ?kH ?aC ?lC ?cC ?kC ?aAL ?lAL ?cAL ?kAL ?aIW ?lIW ?cIW ?kIW ?aMO ?lMO ?cMO ?kMO ?aCU ?lCU ?cCU ?kCU ?aI ?lI ?cI ?kI ?aUD ?lUD ?cUD ?kUD ?aBG ?lBG ?cBG ?kBG ?aFU ?lFU ?cFU ?kFU ?aUN ?lUN ?cUN ?kUN ?aTA ?lTA ?cTA ?kTA ?aTW ?lTW ?cTW ?kTW ?aT ?lT ?cT ?kT ?aS ?lS ?cS ?kS ?aG ?lG ?cG ?kG ?aRU ?lRU ?cRU ?kRU ?aTB ?lTB ?cTB ?kTB ?aWI ?lWI ?cWI ?kWI ?aTO ?lTO ?cTO ?kTO ?aDU ?lDU ?cDU ?kDU ?aRI ?lRI ?cRI ?kRI ?aQ ?lQ ?cQ ?kQ ?gWI ?hWI ?ylen ?yrange ?yenumerate ?ylist ?yint ?yisinstance ?ytuple ?ybool ?ysorted
    (case aH => k_is)
    (case lH => k_is)
    (case cH => k_is)
    (case kH => k_is)
    (case aC => k_is)
    (case lC => k_is)
    (case cC => k_is)
    (case kC => k_is)
    (case aAL => k_is)
    (case lAL => k_is)
    (case cAL => k_is)
    (case kAL => k_is)
    (case aIW => k_is)
    (case lIW => k_is)
    (case cIW => k_is)
    (case kIW => k_is)
    (case aMO => k_is)
    (case lMO => k_is)
    (case cMO => k_is)
    (case kMO => k_is)
    (case aCU => k_is)
    (case lCU => k_is)
    (case cCU => k_is)
    (case kCU => k_is)
    (case aI => k_is)
    (case lI => k_is)
    (case cI => k_is)
    (case kI => k_is)
    (case aUD => k_is)
    (case lUD => k_is)
    (case cUD => k_is)
    (case kUD => k_is)
    (case aBG => k_is)
    (case lBG => k_is)
    (case cBG => k_is)
    (case kBG => k_is)
    (case aFU => k_is)
    (case lFU => k_is)
    (case cFU => k_is)
    (case kFU => k_is)
    (case aUN => k_is)
    (case lUN => k_is)
    (case cUN => k_is)
    (case kUN => k_is)
    (case aTA => k_is)
    (case lTA => k_is)
    (case cTA => k_is)
    (case kTA => k_is)
    (case aTW => k_is)
    (case lTW => k_is)
    (case cTW => k_is)
    (case kTW => k_is)
    (case aT => k_is)
    (case lT => k_is)
    (case cT => k_is)
    (case kT => k_is)
    (case aS => k_is)
    (case lS => k_is)
    (case cS => k_is)
    (case kS => k_is)
    (case aG => k_is)
    (case lG => k_is)
    (case cG => k_is)
    (case kG => k_is)
    (case aRU => k_is)
    (case lRU => k_is)
    (case cRU => k_is)
    (case kRU => k_is)
    (case aTB => k_is)
    (case lTB => k_is)
    (case cTB => k_is)
    (case kTB => k_is)
    (case aWI => k_is)
    (case lWI => k_is)
    (case cWI => k_is)
    (case kWI => k_is)
    (case aTO => k_is)
    (case lTO => k_is)
    (case cTO => k_is)
    (case kTO => k_is)
    (case aDU => k_is)
    (case lDU => k_is)
    (case cDU => k_is)
    (case kDU => k_is)
    (case aRI => k_is)
    (case lRI => k_is)
    (case cRI => k_is)
    (case kRI => k_is)
    (case aQ => k_is)
    (case lQ => k_is)
    (case cQ => k_is)
    (case kQ => k_is)
    (case gWI => exact rfl)
    (case hWI => kernel_rfl)
    (case ylen => k_is)
    (case yrange => k_is)
    (case yenumerate => k_is)
    (case ylist => k_is)
    (case yint => k_is)
    (case yisinstance => k_is)
    (case ytuple => k_is)
    (case ybool => k_is)
    (case ysorted => k_is)


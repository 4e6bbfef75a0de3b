import PyProof.Rows.All
import Wide.All
import OpenK.AllK
import Wide.FinOn
import Lean
import PyProof.EqAt
import PyProof.EqKinds
import PyProof.TupleCall
import PyProof.Cells
import KE.KLam
import KE.KNestM
import KE.KTryMore
import KE.KIsAll
import PyProof.ExcBaseAll.ValueError
import PyProof.NsDelKeeps
import PyProof.ExcArgsOwn
import KE.KSortTup
import PyProof.SetRoads
import PyProof.Rows.SetFrom
import KE.RegKIsAll
import KE.RegKTryMore
import PySem.Challenge.RW_splithouse_k51_cuts_refused
-- CHANGE: your row's module here, as the last of these rows
set_option Elab.async false
set_option linter.all false
set_option maxRecDepth 100000
/-! THE HAND LAYER, for ints, bools, texts, own classes, LISTS and tuples (index, slices, in, append, pop ..), calls, loops. Paste it whole ahead of your own text; what your proof does not reach may be deleted. -/
namespace L2
open PySem PySem.Spec PyProof.Rows

/-- a key: an int or a str -/
noncomputable abbrev Key := Sum Int Str
noncomputable def keyIs : Key → Value → Bool
  | .inl k, v => Value.isInt k v
  | .inr x, v => Value.isStrOf x v
noncomputable def keyH (w : World) : Key → Int
  | .inl k => hashInt k
  | .inr x => hashStr w x
theorem keyIs_shape : ∀ {k : Key} {v : Value}, keyIs k v = true → (∃ i t, k = Sum.inl i ∧ v = Value.int i t) ∨ (∃ x t, k = Sum.inr x ∧ v = Value.str x t)
  | .inl i, v, h => by
    obtain ⟨t, e⟩ := Value.isInt_shape (k := i) (v := v) h
    exact .inl ⟨i, t, rfl, e⟩
  | .inr x, v, h => by
    obtain ⟨t, e⟩ := Value.isStrOf_shape (x := x) (v := v) h
    exact .inr ⟨x, t, rfl, e⟩
theorem key_ll (a b : Int) : decide ((Sum.inl a : Key) = Sum.inl b) = (a == b) := by
  by_cases e : a = b
  · subst e; simp
  · have h : ¬ (Sum.inl a : Key) = Sum.inl b := fun q => e (Sum.inl.inj q)
    rw [decide_eq_false h]
    exact (beq_eq_false_iff_ne.mpr e).symm
theorem key_rr (a b : Str) : decide ((Sum.inr a : Key) = Sum.inr b) = decide (a = b) := by
  by_cases e : a = b
  · subst e; simp
  · have h : ¬ (Sum.inr a : Key) = Sum.inr b := fun q => e (Sum.inr.inj q)
    rw [decide_eq_false h, decide_eq_false e]
theorem key_lr (a : Int) (b : Str) : decide ((Sum.inl a : Key) = Sum.inr b) = false := decide_eq_false (fun q => nomatch q)
theorem key_rl (a : Str) (b : Int) : decide ((Sum.inr a : Key) = Sum.inl b) = false := decide_eq_false (fun q => nomatch q)

noncomputable def mixKind (prog : Program) (w : World) : PySem.KeyKind prog w Key where
  is := keyIs
  hash := keyH w
  inj := fun v a b ha hb => by
    rcases keyIs_shape ha with ⟨i, t, rfl, rfl⟩ | ⟨x, t, rfl, rfl⟩
    · rcases keyIs_shape hb with ⟨j, u, rfl, e⟩ | ⟨y, u, rfl, e⟩
      · injection e with e1 _; rw [e1]
      · exact nomatch e
    · rcases keyIs_shape hb with ⟨j, u, rfl, e⟩ | ⟨y, u, rfl, e⟩
      · exact nomatch e
      · injection e with e1 _; rw [e1]
  byValue := fun k v h => by
    rcases keyIs_shape h with ⟨i, t, rfl, rfl⟩ | ⟨x, t, rfl, rfl⟩ <;> rfl
  pyHash := fun hv h => by
    rcases keyIs_shape hv with ⟨i, t, rfl, rfl⟩ | ⟨x, t, rfl, rfl⟩
    · exact wpAny_pyHash_int h
    · exact wpAny_pyHash_str h
  eqBool := fun hu hv h => by
    rcases keyIs_shape hu with ⟨i, t, rfl, rfl⟩ | ⟨x, t, rfl, rfl⟩
    · rcases keyIs_shape hv with ⟨j, u, rfl, rfl⟩ | ⟨y, u, rfl, rfl⟩
      · rw [key_ll] at h; exact wpAny_eqBool_int h
      · rw [key_lr] at h; exact SeqAt.EqAt.int_str i t y u _ _ _ _ h
    · rcases keyIs_shape hv with ⟨j, u, rfl, rfl⟩ | ⟨y, u, rfl, rfl⟩
      · rw [key_rl] at h; exact SeqAt.EqAt.str_int x t j u _ _ _ _ h
      · rw [key_rr] at h; exact wpAny_eqBool_str h
  «strs» := fun k x t v h => by
    rcases keyIs_shape h with ⟨i, u, rfl, e⟩ | ⟨y, u, rfl, e⟩
    · exact nomatch e
    · injection e with e1 _
      subst e1
      cases v <;> rfl

end L2

namespace L2
open PySem PySem.Spec PyProof.Rows

/-- a value, without the heap -/
inductive V where
  | non | bl (b : Bool) | int (i : Int) | str (x : Str) | byt (b : Array UInt8) | flt (b : UInt64) | ref (a : Addr) | ty (n : String)
  deriving DecidableEq

noncomputable def RelV : V → Value → Prop
  | .non, u => u = Value.none
  | .bl b, u => u = Value.bool b
  | .int i, u => ∃ t, u = Value.int i t
  | .str x, u => ∃ t, u = Value.str x t
  | .byt b, u => ∃ t, u = Value.bytes b t
  | .flt b, u => ∃ t, u = Value.float b t
  | .ref a, u => u = Value.ref a
  | .ty n, u => u = Value.type n

noncomputable abbrev Vals : List V → List Value → Prop := Paired RelV
theorem Vals.length {xs : List V} {us : List Value} (r : Vals xs us) : xs.length = us.length := Paired.length r
theorem Vals.get : ∀ {xs : List V} {us : List Value} {i : Nat} {x : V}, Vals xs us → xs[i]? = some x → ∃ u, us[i]? = some u ∧ RelV x u
  | _, _, _, _, .nil, e => by simp at e
  | _, _, 0, _, .cons r _, e => by simp at e; subst e; exact ⟨_, rfl, r⟩
  | _, _, i + 1, x, .cons _ t, e => by
    obtain ⟨u, h1, h2⟩ := Vals.get (i := i) (x := x) t (by simpa using e)
    exact ⟨u, by simpa using h1, h2⟩
theorem Vals.set {x : V} {u : Value} (r : RelV x u) : ∀ {xs : List V} {us : List Value} (i : Nat), Vals xs us → Vals (xs.set i x) (us.set i u)
  | _, _, _, .nil => .nil
  | _, _, 0, .cons _ t => .cons r t
  | _, _, i + 1, .cons q t => .cons q (Vals.set r i t)
theorem Vals.append : ∀ {xs ys : List V} {us ws : List Value}, Vals xs us → Vals ys ws → Vals (xs ++ ys) (us ++ ws)
  | _, _, _, _, .nil, s => s
  | _, _, _, _, .cons r t, s => .cons r (Vals.append t s)
theorem Vals.take : ∀ {xs : List V} {us : List Value} (n : Nat), Vals xs us → Vals (xs.take n) (us.take n)
  | _, _, 0, _ => .nil
  | _, _, _ + 1, .nil => .nil
  | _, _, n + 1, .cons r t => .cons r (Vals.take n t)
theorem Vals.drop : ∀ {xs : List V} {us : List Value} (n : Nat), Vals xs us → Vals (xs.drop n) (us.drop n)
  | _, _, 0, r => r
  | _, _, _ + 1, .nil => .nil
  | _, _, n + 1, .cons _ t => Vals.drop n t
noncomputable def RelO : Option V → Option Value → Prop
  | some v, some u => RelV v u
  | none, none => True
  | _, _ => False
noncomputable def KV {κ : Type} : List (κ × V) → List (κ × Value) → Prop := Paired fun (p : κ × V) (q : κ × Value) => p.1 = q.1 ∧ RelV p.2 q.2

/-- a key of a dict (00_mix): an int or a text -/
noncomputable def kV : Key → V
  | .inl i => .int i
  | .inr x => .str x

/-- what stands at a tracked address -/
inductive HO where
  /-- a list -/
  | lst (xs : List V)
  /-- a tuple (never changes) -/
  | tup (xs : List V)
  /-- a dict whose keys are ints and texts; one whose keys are tuples of ints and texts (the empty one is both) -/
  | dK (kvs : List (Key × V)) | dT (kvs : List (List Key × V))
  /-- a set of ints: its members, its size -/
  | set (S : Int → Bool) (n : Nat)
  /-- an instance of the class at C, its dict at dx, its attributes -/
  | ins (C dx : Addr) (fs : List (Str × V))
  /-- the dict of the instance at x -/
  | own (x : Addr)
  /-- the dict of an exception -/
  | xd (fs : List (Str × V))
  /-- a bound method, f of x -/
  | met (f x : Addr)
  /-- a range object lo, lo + 1, .. below hi -/
  | rng (lo hi : Int)
  /-- a thing that is known to the object (the script; a dict while a loop walks it): read, never written while it is so -/
  | frz (o : Obj) (u : HO)
  /-- a code object's table -/
  | tbl (ps : Array Value)
  /-- any other thing, by what is true of its one object (a def of one's own: SetO a S n := HO.ext fun h => ..) -/
  | ext (φ : Heap → Prop)

noncomputable abbrev Hp := Addr → Option HO
noncomputable def upd (H : Hp) (a : Addr) (o : HO) : Hp := fun b => if b = a then some o else H b
theorem upd_same {H : Hp} {a : Addr} {o : HO} : upd H a o a = some o := by unfold upd; rw [if_pos rfl]
theorem upd_ne {H : Hp} {a b : Addr} {o : HO} (h : b ≠ a) : upd H a o b = H b := by unfold upd; rw [if_neg h]
/-- two objects of different content stand apart -/
theorem ne_of {H : Hp} {a b : Addr} {o u : HO} (h : H a = some o) (h' : H b = some u) (d : o ≠ u) : a ≠ b := by
  intro e; subst e; rw [h] at h'; exact d (Option.some.inj h')
theorem ne_of_none {H : Hp} {a b : Addr} {o : HO} (h : H a = some o) (h' : H b = none) : a ≠ b := by
  intro e; subst e; rw [h] at h'; cases h'

section
variable (P : Program) (w : World)
noncomputable def ObjOk (H : Hp) (h : Heap) (a : Addr) : HO → Prop
  | .lst xs => xs.length ≤ sizeLine ∧ ∃ (its : List Value) (n : Nat), Vals xs its ∧ h.get? a = some { cls := .type "list", data := .seq its.toArray n }
  | .tup xs => xs.length ≤ sizeLine ∧ ∃ its : List Value, Vals xs its ∧ IsTup h a its.toArray
  | .dK kvs => kvs.length ≤ sizeLine ∧ (a == sysModules) = false ∧ ∃ vs, KV kvs vs ∧ h.DictOf (mixKind P w) a vs
  | .dT kvs => kvs.length ≤ sizeLine ∧ (a == sysModules) = false ∧ ∃ xs : List (List Key × Addr × Value),
      Paired (fun (p : List Key × V) (q : List Key × Addr × Value) => p.1 = q.1 ∧ H q.2.1 = some (.tup (p.1.map kV)) ∧ RelV p.2 q.2.2) kvs xs ∧
      ∃ o es ep, h.get? a = some o ∧ o.ExactDict ∧ o.data = .dict es ep ∧ es.toList = xs.map (entryOfKey (tupleKind (mixKind P w))) ∧ (xs.map (·.1)).Nodup
  | .set S n => h.SetOf (intKind P w) a S n
  | .ins C dx fs => H dx = some (.own a) ∧ fs.length ≤ 1000 ∧ dx ≠ a ∧ h.get? a = some (PySem.W.instObj C dx) ∧
      ∃ mA, h.Ns1 dx mA ∧ (∀ f, RelO (fs.lookup f) (mA f)) ∧ PySem.Within mA (fs.map (·.1))
  | .own _ => ∃ o, h.get? a = some o
  | .xd fs => ∃ mA, h.Ns1 a mA ∧ ∀ f, RelO (fs.lookup f) (mA f)
  | .rng lo hi => ∃ t u v, h.get? a = some { cls := .type "range", data := .fields #[.int lo t, .int hi u, .int 1 v] }
  | .frz o u => h.get? a = some o ∧ ObjOk H h a u
  | .tbl ps => h.get? a = some { cls := .none, data := .fields ps }
  | .met f x => h.get? a = some (PySem.W.methodObj (.ref f) (.ref x))
  | .ext φ => φ h ∧ (∃ o, h.get? a = some o) ∧ ∀ h1 h2 : Heap, φ h1 → (∀ o, h1.get? a = some o → h2.get? a = some o) → φ h2
/-- the abstract heap is held -/
noncomputable def HOk (H : Hp) (h : Heap) : Prop := ∀ a o, H a = some o → ObjOk P w H h a o
end

section
variable {P : Program} {w : World} {H H' : Hp} {h h' : Heap} {a : Addr} {o : HO}
theorem ObjOk.lt (x : ObjOk P w H h a o) : a < h.objs.size := by
  cases o with
  | lst xs => obtain ⟨_, _, _, _, e⟩ := x; exact Heap.lt_size e
  | tup xs => obtain ⟨_, _, _, p⟩ := x; exact p.lt
  | dK kvs => obtain ⟨_, _, _, _, o, _, _, e, _⟩ := x; exact Heap.lt_size e
  | dT kvs => obtain ⟨_, _, _, _, o, _, _, e, _⟩ := x; exact Heap.lt_size e
  | set S n => obtain ⟨o, _, _, _, e, _⟩ := x; exact Heap.lt_size e
  | ins C dx fs => obtain ⟨_, _, _, e, _⟩ := x; exact Heap.lt_size e
  | own y => obtain ⟨_, e⟩ := x; exact Heap.lt_size e
  | xd fs => obtain ⟨_, ⟨_, _, _, e, _⟩, _⟩ := x; exact Heap.lt_size e
  | rng lo hi => obtain ⟨_, _, _, e⟩ := x; exact Heap.lt_size e
  | frz ob u => obtain ⟨e, _⟩ := x; exact Heap.lt_size e
  | tbl ps => exact Heap.lt_size (show h.get? a = some _ from x)
  | met f y => exact Heap.lt_size (show h.get? a = some _ from x)
  | ext φ => obtain ⟨_, ⟨_, e⟩, _⟩ := x; exact Heap.lt_size e
theorem Paired.mapP {α β : Type} {F G : α → β → Prop} : ∀ {l₁ : List α} {l₂ : List β}, Paired F l₁ l₂ → (∀ a b, F a b → G a b) → Paired G l₁ l₂
  | _, _, .nil, _ => .nil
  | _, _, .cons r t, f => .cons (f _ _ r) (Paired.mapP t f)
/-- what an object's description leans on: its own object, its own dict, the tuples -/
theorem ObjOk.stay (x : ObjOk P w H h a o) (k : ∀ b u, (b = a ∨ H b = some (.own a)) → h.get? b = some u → h'.get? b = some u)
    (ho : ∀ b, H b = some (.own a) → H' b = some (.own a)) (ht : ∀ b xs, H b = some (.tup xs) → H' b = some (.tup xs)) : ObjOk P w H' h' a o := by
  induction o with
  | lst xs => obtain ⟨z, its, n, r, e⟩ := x; exact ⟨z, its, n, r, k _ _ (.inl rfl) e⟩
  | tup xs => obtain ⟨z, its, r, ob, e, c⟩ := x; exact ⟨z, its, r, ob, k _ _ (.inl rfl) e, c⟩
  | dK kvs => obtain ⟨z, y, vs, r, ob, es, ep, e, c⟩ := x; exact ⟨z, y, vs, r, ob, es, ep, k _ _ (.inl rfl) e, c⟩
  | dT kvs =>
    obtain ⟨z, y, xs, r, ob, es, ep, e, c⟩ := x
    exact ⟨z, y, xs, Paired.mapP r fun p q z => ⟨z.1, ht _ _ z.2.1, z.2.2⟩, ob, es, ep, k _ _ (.inl rfl) e, c⟩
  | set S n => obtain ⟨ob, es, ep, t, e, c⟩ := x; exact ⟨ob, es, ep, t, k _ _ (.inl rfl) e, c⟩
  | ins C dx fs =>
    obtain ⟨d, z, ne, e, mA, ⟨od, es, ep, e2, c⟩, r⟩ := x
    exact ⟨ho _ d, z, ne, k _ _ (.inl rfl) e, mA, ⟨od, es, ep, k _ _ (.inr d) e2, c⟩, r⟩
  | own y => obtain ⟨ob, e⟩ := x; exact ⟨ob, k _ _ (.inl rfl) e⟩
  | xd fs => obtain ⟨mA, ⟨od, es, ep, e, c⟩, r⟩ := x; exact ⟨mA, ⟨od, es, ep, k _ _ (.inl rfl) e, c⟩, r⟩
  | rng lo hi => obtain ⟨t, u, v, e⟩ := x; exact ⟨t, u, v, k _ _ (.inl rfl) e⟩
  | frz ob u ih => obtain ⟨e, q⟩ := x; exact ⟨k _ _ (.inl rfl) e, ih q⟩
  | tbl ps =>
    have e : h.get? a = some { cls := .none, data := .fields ps } := x
    show h'.get? a = some { cls := .none, data := .fields ps }
    exact k a _ (.inl rfl) e
  | met f y =>
    have e : h.get? a = some (PySem.W.methodObj (.ref f) (.ref y)) := x
    show h'.get? a = some (PySem.W.methodObj (.ref f) (.ref y))
    exact k a _ (.inl rfl) e
  | ext φ => obtain ⟨p, ⟨o, e⟩, st⟩ := x; exact ⟨st _ _ p fun o q => k _ _ (.inl rfl) q, ⟨o, k _ _ (.inl rfl) e⟩, st⟩
theorem HOk.lt (x : HOk P w H h) (e : H a = some o) : a < h.objs.size := (x a o e).lt
theorem HOk.fresh (x : HOk P w H h) (e : h.objs.size ≤ a) : H a = none := by
  cases q : H a with
  | none => rfl
  | some u => exact absurd (Nat.lt_of_lt_of_le (x.lt q) e) (Nat.lt_irrefl _)
/-- every object of the heap is kept -/
theorem HOk.kept (x : HOk P w H h) (k : ∀ b u, h.get? b = some u → h'.get? b = some u) : HOk P w H h' := fun a o e =>
  (x a o e).stay (fun b u _ q => k b u q) (fun _ q => q) fun _ _ q => q
/-- a new object is laid and tracked -/
theorem HOk.laid (x : HOk P w H h) (k : ∀ b u, h.get? b = some u → h'.get? b = some u) (hp : h.objs.size ≤ a) (new : ObjOk P w (upd H a o) h' a o) : HOk P w (upd H a o) h' := fun b u e => by
  have hn := x.fresh hp
  by_cases hb : b = a
  · subst hb; rw [upd_same] at e; cases e; exact new
  · rw [upd_ne hb] at e
    exact (x b u e).stay (fun c v _ q => k c v q) (fun c q => by rw [upd_ne (ne_of_none q hn)]; exact q) fun c xs q => by rw [upd_ne (ne_of_none q hn)]; exact q
end

/-- what may be read as u: it is u, or a known u -/
noncomputable def Rd (H : Hp) (a : Addr) (u : HO) : Prop := H a = some u ∨ ∃ o, H a = some (.frz o u)
theorem Rd.ok {P : Program} {w : World} {H : Hp} {h : Heap} {a : Addr} {u : HO} (r : Rd H a u) (x : HOk P w H h) : ObjOk P w H h a u := by
  rcases r with r | ⟨o, r⟩
  · exact x a u r
  · obtain ⟨_, q⟩ := x a _ r
    exact q
/-- what may be written -/
noncomputable def Mut : Option HO → Prop
  | some (.lst _) => True
  | some (.dK _) => True
  | some (.dT _) => True
  | some (.set _ _) => True
  | some (.ins _ _ _) => True
  | some (.ext _) => True
  | _ => False
section
variable {P : Program} {w : World} {H : Hp} {h h' : Heap} {x e : Addr} {o' : HO}
/-- the object at e is changed: x itself, or the dict of the instance x -/
theorem HOk.write (ok : HOk P w H h) (mu : Mut (H x)) (he : e = x ∨ H e = some (.own x)) (k : ∀ b u, b ≠ e → h.get? b = some u → h'.get? b = some u) (heo : ∃ u, h'.get? e = some u)
    (new : ObjOk P w (upd H x o') h' x o') : HOk P w (upd H x o') h' := fun b u q => by
  have nown : ∀ c y, H c = some (.own y) → c ≠ x := fun c y r z => by subst z; rw [r] at mu; exact mu
  have ntup : ∀ c xs, H c = some (.tup xs) → c ≠ x := fun c xs r z => by subst z; rw [r] at mu; exact mu
  by_cases hb : b = x
  · subst hb; rw [upd_same] at q; cases q; exact new
  · rw [upd_ne hb] at q
    by_cases hbe : b = e
    · have q' : H b = some (.own x) := by
        rcases he with z | z
        · exact absurd (hbe.trans z) hb
        · rw [hbe]; exact z
      rw [q] at q'; cases q'
      obtain ⟨v, hv⟩ := heo
      exact ⟨v, by rw [hbe]; exact hv⟩
    · refine (ok b u q).stay (fun c v hc r => k c v ?_ r) (fun c r => by rw [upd_ne (nown c b r)]; exact r) fun c xs r => by rw [upd_ne (ntup c xs r)]; exact r
      rcases hc with rfl | hc
      · exact hbe
      · rintro rfl
        rcases he with z | z
        · exact nown c b hc z
        · rw [hc] at z; cases z; exact hb rfl
end

/-! ### kept unless tracked; of the frames at fs (the callers') the slots may change (an exception that passes writes there); of the records at ex (iterators) nothing is said -/
structure Un (fs ex : List Addr) (H H' : Hp) (h h' : Heap) : Prop where
  keep : ∀ b o, h.get? b = some o → H b = none → b ∉ fs → b ∉ ex → h'.get? b = some o
  slot : ∀ b o, h.get? b = some o → H b = none → b ∈ fs → b ∉ ex → ∃ sl, h'.get? b = some { o with slots := sl }
  free : ∀ b o, h.get? b = some o → H b = none → b ∉ ex → H' b = none
  there : ∀ b o, h.get? b = some o → b ∉ ex → ∃ o', h'.get? b = some o'
  tups : ∀ b xs, H b = some (.tup xs) → H' b = some (.tup xs)
  frzs : ∀ b o u, H b = some (.frz o u) → H' b = some (.frz o u)
  tbls : ∀ b ps, H b = some (.tbl ps) → ∃ more, H' b = some (.tbl (ps ++ more))
section
variable {fs fs' ex ex' : List Addr} {H H1 H2 : Hp} {h h1 h2 h' : Heap} {a x e : Addr} {o : HO}
theorem Un.any (u : Un fs ex H H1 h h1) {b : Addr} {ob : Obj} (q : h.get? b = some ob) (n : H b = none) (hx : b ∉ ex) : ∃ sl, h1.get? b = some { ob with slots := sl } := by
  by_cases hb : b ∈ fs
  · exact u.slot b ob q n hb hx
  · exact ⟨ob.slots, u.keep b ob q n hb hx⟩
theorem Un.kept (k : ∀ b u, h.get? b = some u → h'.get? b = some u) : Un fs ex H H h h' :=
  ⟨fun b ob q _ _ _ => k b ob q, fun b ob q _ _ _ => ⟨ob.slots, k b ob q⟩, fun _ _ _ n _ => n, fun b ob q _ => ⟨ob, k b ob q⟩, fun _ _ q => q, fun _ _ _ q => q, fun _ ps q => ⟨#[], by rw [q]; simp⟩⟩
theorem Un.refl : Un fs ex H H h h := Un.kept fun _ _ q => q
theorem Un.laid (k : ∀ b u, h.get? b = some u → h'.get? b = some u) (hp : h.objs.size ≤ a) (hn : H a = none) : Un fs ex H (upd H a o) h h' where
  keep := fun b u q _ _ _ => k b u q
  slot := fun b u q _ _ _ => ⟨u.slots, k b u q⟩
  free := fun b u q n _ => by rw [upd_ne (Nat.ne_of_lt (Nat.lt_of_lt_of_le (Heap.lt_size q) hp))]; exact n
  there := fun b u q _ => ⟨u, k b u q⟩
  tups := fun b xs q => by rw [upd_ne (ne_of_none q hn)]; exact q
  frzs := fun b u xs q => by rw [upd_ne (ne_of_none q hn)]; exact q
  tbls := fun b ps q => ⟨#[], by rw [upd_ne (ne_of_none q hn), q]; simp⟩
theorem Un.write (mu : Mut (H x)) (he : e = x ∨ H e = some (.own x)) (k : ∀ b u, b ≠ e → h.get? b = some u → h'.get? b = some u) (heo : ∃ u, h'.get? e = some u) : Un fs ex H (upd H x o) h h' := by
  have hx : ∀ b, H b = none → b ≠ x := fun b n z => by subst z; rw [n] at mu; exact mu
  have hb : ∀ b, H b = none → b ≠ e := fun b n z => by
    subst z
    rcases he with r | r
    · exact hx b n r
    · rw [n] at r; cases r
  have hm : ∀ b u, H b = some u → ¬ Mut (some u) → b ≠ x := fun b u q nm z => by subst z; rw [q] at mu; exact nm mu
  refine ⟨fun b u q n _ _ => k b u (hb b n) q, fun b u q n _ _ => ⟨u.slots, k b u (hb b n) q⟩, fun b u q n _ => by rw [upd_ne (hx b n)]; exact n, fun b u q _ => ?_,
    fun b xs q => by rw [upd_ne (hm b _ q fun z => z)]; exact q, fun b u xs q => by rw [upd_ne (hm b _ q fun z => z)]; exact q, fun b ps q => ⟨#[], by rw [upd_ne (hm b _ q fun z => z), q]; simp⟩⟩
  by_cases hbe : b = e
  · subst hbe; exact heo
  · exact ⟨u, k b u hbe q⟩
end

/-! ### the heap without what is tracked -/
noncomputable def trk (h : Heap) (H : Hp) : List Addr := (List.range h.objs.size).filter fun a => (H a).isSome
noncomputable def hidT (h : Heap) (H : Hp) : Heap := PySem.W.hideAll h (trk h H)
theorem hidT_size (h : Heap) (H : Hp) : (hidT h H).objs.size = h.objs.size := PySem.W.hideAll_size _ _
theorem hidT_get {h : Heap} {H : Hp} {b : Addr} {o : Obj} (e : h.get? b = some o) (n : H b = none) : (hidT h H).get? b = some o :=
  PySem.W.hideAll_get _ e fun hm => by
    have q : (H b).isSome = true := (List.mem_filter.mp hm).2
    rw [n] at q; simp at q
theorem of_hidT {h : Heap} {H : Hp} {b : Addr} {o : Obj} (e : (hidT h H).get? b = some o) : h.get? b = some o ∧ H b = none := by
  have e' : h.get? b = some o := PySem.W.of_hideAll (trk h H) e
  refine ⟨e', ?_⟩
  cases q : H b with
  | none => rfl
  | some x =>
    have hm : b ∈ trk h H := List.mem_filter.mpr ⟨List.mem_range.mpr (Heap.lt_size e'), by simp [q]⟩
    have z : (hidT h H).get? b = none := PySem.W.hideAll_none (trk h H) hm
    rw [z] at e; cases e

/-! ### OpenK's ledger, filled with every new object but one -/
end L2

namespace L2
open PySem PySem.Spec PyProof.Rows

/-- the module's facts, over the base: the heap at the law's entry without what is tracked there -/
structure Mod (K : PySem.W.Frag) (mg : Str → Option Value) (base : Heap) : Prop where
  kin : K.In base
  glob : base.Ns mainGlobals mg
  blt : ∃ mb, base.Ns builtinsNs mb ∧ ∀ x : Str, x ≠ "__name__" → mb x = bootBuiltins x
  nolimit : base.NoLimit

/-- the context: a def's body (or a comprehension's block) running. base: fixed through the whole law; s₀, H₀: the entry; outer: the frames whose slots others may change (a def's callers); stack: all frames that run;
   ex: iterators that were made ahead of the entry and are walked here (a comprehension's); fn: the names whose cells were made at the entry (a def: all; a comprehension's block: its own); calm: not within an except suite; pn: pins that every state bears; xe: what is wanted of an exception that leaves the code -/
structure Cx where
  prog : Program
  w : World
  K : PySem.W.Frag
  mg : Str → Option Value
  base : Heap
  A : Around
  N : List Str
  s₀ : Shared
  H₀ : Hp
  env : Env
  outer : List Env
  stack : List Env
  ex : List Addr
  fn : Str → Bool
  calm : Bool
  pn : List (Addr × Obj)
  xe : Value → Shared → Prop
/-- the callers' frames -/
noncomputable def frs (l : List Env) : List Addr := l.filterMap (·.frame)
noncomputable abbrev Cx.fs (X : Cx) : List Addr := frs X.outer

noncomputable def Vis (sc : Scope) (x : Str) : Prop := sc.names.lookup x = some .local ∨ sc.names.lookup x = some .cell ∨ sc.names.lookup x = some .free
noncomputable def Loc (sc : Scope) (x : Str) : Prop := sc.names.lookup x = some .local ∨ sc.names.lookup x = some .cell
noncomputable def Look (env : Env) (h : Heap) (m : Str → Option Value) (x : Str) (u : Value) : Prop :=
  (env.kindOf x = some .local ∧ m x = some u) ∨ ((env.kindOf x = some .cell ∨ env.kindOf x = some .free) ∧ ∃ c, env.cells.lookup x = some c ∧ h.IsCell c (some u))

structure Cx.Ok (X : Cx) : Prop where
  mod : Mod X.K X.mg X.base
  kind : X.env.scope.kind = .function
  glob : X.env.globals = mainGlobals
  blt : X.env.builtins = builtinsNs
  above : X.s₀.heap.objs.size ≤ X.env.locals
  inj : ∀ x y c, X.env.cells.lookup x = some c → X.env.cells.lookup y = some c → x = y
  has : ∀ x, (X.env.kindOf x = some .cell ∨ X.env.kindOf x = some .free) → ∃ c, X.env.cells.lookup x = some c
  cab : ∀ x c, X.fn x = true → X.env.cells.lookup x = some c → X.s₀.heap.objs.size ≤ c
  hd : X.calm = true → X.A.handled = none
  frames : X.A.frames = some X.stack
  stk : X.stack = X.outer ∨ (X.stack = X.env :: X.outer ∧ X.env.frame = some X.env.locals)
  exf : ∀ b ∈ X.ex, b ≠ X.env.locals ∧ ∀ x c, X.env.cells.lookup x = some c → c ≠ b
  bs : ∀ b o, X.base.get? b = some o → X.s₀.heap.get? b = some o ∧ X.H₀ b = none
  bsz : X.base.objs.size ≤ X.s₀.heap.objs.size
  noex : ∀ b o, X.base.get? b = some o → b ∉ X.ex
  exfs : ∀ b ∈ X.ex, b ∉ X.fs
  funs : X.s₀.heap.FunFrames X.base X.outer
  frf : ∀ b ∈ X.fs, X.H₀ b = none

structure Inv (X : Cx) (pins : List (Addr × Obj)) (σ : List (Option V)) (H : Hp) (s : Shared) : Prop where
  ok : X.Ok
  os : s.os = X.s₀.os
  bare : AllBare s.gens
  base : Un X.fs X.ex X.H₀ H X.s₀.heap s.heap
  loc : ∃ m, s.heap.Ns X.env.locals m ∧ ∀ (i : Nat) (x : Str) (v : V), X.N[i]? = some x → σ[i]? = some (some v) → Vis X.env.scope x → ∃ u, RelV v u ∧ Look X.env s.heap m x u
  cell : ∀ x c, X.env.cells.lookup x = some c → ∃ v, s.heap.IsCell c v
  free : H X.env.locals = none
  freeC : ∀ x c, X.env.cells.lookup x = some c → H c = none
  pin : ∀ p ∈ X.pn ++ pins, s.heap.get? p.1 = some p.2 ∧ H p.1 = none ∧ p.1 ≠ X.env.locals ∧ p.1 ∉ X.fs ∧ ∀ v, p.2.data ≠ .cell v
  hok : HOk X.prog X.w H s.heap
  len : σ.length = X.N.length

section
variable {X : Cx} {pins : List (Addr × Obj)} {σ : List (Option V)} {H H' : Hp} {s : Shared} {h' : Heap}

theorem Cx.Ok.nofr (ok : X.Ok) {b : Addr} {o : Obj} (e : X.base.get? b = some o) : b ∉ X.fs := fun hb => by
  have := (ok.funs.mem hb).1
  rw [e] at this; cases this
theorem Inv.bs (I : Inv X pins σ H s) : ∀ b o, X.base.get? b = some o → s.heap.get? b = some o ∧ H b = none := fun b o e =>
  ⟨I.base.keep b o (I.ok.bs b o e).1 (I.ok.bs b o e).2 (I.ok.nofr e) (I.ok.noex b o e), I.base.free b o (I.ok.bs b o e).1 (I.ok.bs b o e).2 (I.ok.noex b o e)⟩
theorem Inv.bk (I : Inv X pins σ H s) : ∀ b o, X.base.get? b = some o → s.heap.get? b = some o := fun b o e => (I.bs b o e).1
theorem Inv.mod (I : Inv X pins σ H s) : Mod X.K X.mg X.base := I.ok.mod
theorem Inv.kIn (I : Inv X pins σ H s) : X.K.In s.heap := I.ok.mod.kin.keeps I.bk
theorem Inv.nolimit (I : Inv X pins σ H s) : s.heap.NoLimit := I.ok.mod.nolimit.keeps I.bk
theorem Inv.lt (I : Inv X pins σ H s) : X.env.locals < s.heap.objs.size := let ⟨_, hn, _⟩ := I.loc; hn.lt
theorem Inv.sz (I : Inv X pins σ H s) : X.s₀.heap.objs.size ≤ s.heap.objs.size := Nat.le_trans I.ok.above (Nat.le_of_lt I.lt)
theorem Inv.nofs (I : Inv X pins σ H s) {a : Addr} (h : s.heap.objs.size ≤ a) : a ∉ X.fs := fun hb => by
  obtain ⟨_, o, ho, _⟩ := I.ok.funs.mem hb
  exact absurd (Nat.lt_of_lt_of_le (Heap.lt_size ho) (Nat.le_trans I.sz h)) (Nat.lt_irrefl _)
theorem Inv.cne (I : Inv X pins σ H s) : ∀ x c, X.env.cells.lookup x = some c → c ≠ X.env.locals := fun x c e z => by
  obtain ⟨v, o, ho, hd⟩ := I.cell x c e
  obtain ⟨m, ⟨o', es, ep, ho', hd', _⟩, _⟩ := I.loc
  rw [z, ho'] at ho; cases ho; rw [hd'] at hd; cases hd
theorem Inv.funs (I : Inv X pins σ H s) : s.heap.FunFrames X.base X.outer := by
  have all : ∀ (l : List Env), (∀ b ∈ frs l, b ∈ X.fs) → X.s₀.heap.FunFrames X.base l → s.heap.FunFrames X.base l := by
    intro l
    induction l with
    | nil => intro _ _; trivial
    | cons env r ih =>
      intro hs hl
      obtain ⟨hk, ⟨L, o, hf, hn, ho, hd⟩, hr⟩ := hl
      have hL : L ∈ X.fs := hs L (by unfold frs; rw [List.filterMap_cons, hf]; exact List.mem_cons_self)
      obtain ⟨sl, e⟩ := I.base.slot L o ho (I.ok.frf L hL) hL fun z => I.ok.exfs L z hL
      exact ⟨hk, ⟨L, _, hf, hn, e, hd⟩, ih (fun b hb => hs b (by unfold frs; rw [List.filterMap_cons, hf]; exact List.mem_cons_of_mem _ hb)) hr⟩
  exact all X.outer (fun _ hb => hb) I.ok.funs

/-- the frames that run, for a call -/
theorem Inv.stack (I : Inv X pins σ H s) : s.heap.FunFrames X.base X.stack := by
  rcases I.ok.stk with e | ⟨e, hf⟩
  · rw [e]; exact I.funs
  · rw [e]
    obtain ⟨m, hn, _⟩ := I.loc
    refine .cons (by rw [I.ok.kind]; decide) hf hn ?_ I.funs
    exact Heap.get?_none_of_le (Nat.le_trans I.ok.bsz I.ok.above)
theorem Inv.stkSub (I : Inv X pins σ H s) : ∀ b ∈ frs X.stack, b ∈ X.env.locals :: X.fs := fun b hb => by
  rcases I.ok.stk with e | ⟨e, hf⟩
  · rw [e] at hb; exact List.mem_cons_of_mem _ hb
  · rw [e] at hb
    unfold frs at hb
    rw [List.filterMap_cons, hf] at hb
    exact hb
theorem Inv.stkFree (I : Inv X pins σ H s) : ∀ b ∈ frs X.stack, H b = none := fun b hb => by
  rcases List.mem_cons.mp (I.stkSub b hb) with e | hb
  · rw [e]; exact I.free
  · obtain ⟨_, o, ho, _⟩ := I.ok.funs.mem hb
    exact I.base.free b o ho (I.ok.frf b hb) fun z => I.ok.exfs b z hb

/-- THE STEP: the untracked objects but the frame and the records at ch are kept (the callers' frames up to slots), the frame's map is kept, the new abstract heap is held -/
theorem Inv.step {g' : Array GenState} {t' : Nat} {d' : Drawn} {ch : List Addr} (I : Inv X pins σ H s)
    (hch : ∀ b ∈ ch, (b ∈ X.ex ∨ X.s₀.heap.objs.size ≤ b) ∧ b ≠ X.env.locals ∧ (∀ x c, X.env.cells.lookup x = some c → c ≠ b) ∧ ∀ p ∈ X.pn ++ pins, p.1 ≠ b)
    (keep : ∀ b o, b ≠ X.env.locals → b ∉ X.fs → b ∉ ch → s.heap.get? b = some o → H b = none → h'.get? b = some o)
    (slot : ∀ b o, b ≠ X.env.locals → b ∈ X.fs → b ∉ ch → s.heap.get? b = some o → H b = none → ∃ sl, h'.get? b = some { o with slots := sl }) (free : ∀ b o, b ∉ ch → s.heap.get? b = some o → H b = none → H' b = none)
    (there : ∀ b o, b ∉ ch → s.heap.get? b = some o → ∃ o', h'.get? b = some o')
    (tups : ∀ b xs, H b = some (.tup xs) → H' b = some (.tup xs)) (frzs : ∀ b o u, H b = some (.frz o u) → H' b = some (.frz o u)) (tbls : ∀ b ps, H b = some (.tbl ps) → ∃ more, H' b = some (.tbl (ps ++ more)))
    (ns : ∀ m, s.heap.Ns X.env.locals m → h'.Ns X.env.locals m) (hok : HOk X.prog X.w H' h') (hg : AllBare g') :
    Inv X pins σ H' { s with heap := h', gens := g', drawn := d', toks := t' } := by
  have neL : ∀ b o, X.s₀.heap.get? b = some o → b ≠ X.env.locals := fun b o e => Nat.ne_of_lt (Nat.lt_of_lt_of_le (Heap.lt_size e) I.ok.above)
  have neC : ∀ b o, X.s₀.heap.get? b = some o → b ∉ X.ex → b ∉ ch := fun b o e hx hb => by
    rcases (hch b hb).1 with z | z
    · exact hx z
    · exact absurd (Nat.lt_of_lt_of_le (Heap.lt_size e) z) (Nat.lt_irrefl _)
  have cellK : ∀ x c, X.env.cells.lookup x = some c → ∀ v, s.heap.IsCell c v → h'.IsCell c v := fun x c e v ⟨o, ho, hd⟩ => by
    have nch : c ∉ ch := fun z => (hch c z).2.2.1 x c e rfl
    by_cases hc : c ∈ X.fs
    · obtain ⟨sl, q⟩ := slot c o (I.cne x c e) hc nch ho (I.freeC x c e)
      exact ⟨_, q, hd⟩
    · exact ⟨o, keep c o (I.cne x c e) hc nch ho (I.freeC x c e), hd⟩
  refine ⟨I.ok, I.os, hg, ⟨fun b o e n hb hx => ?_, fun b o e n hb hx => ?_, fun b o e n hx => ?_, fun b o e hx => ?_, fun b xs e => tups b xs (I.base.tups b xs e), fun b o xs e => frzs b o xs (I.base.frzs b o xs e), fun b ps e => ?_⟩, ?_, fun x c e => ?_, ?_, fun x c e => ?_, fun p hp => ?_, hok, I.len⟩
  · exact keep b o (neL b o e) hb (neC b o e hx) (I.base.keep b o e n hb hx) (I.base.free b o e n hx)
  · obtain ⟨sl, e1⟩ := I.base.slot b o e n hb hx
    obtain ⟨sl', e2⟩ := slot b _ (neL b o e) hb (neC b o e hx) e1 (I.base.free b o e n hx)
    exact ⟨sl', e2⟩
  · obtain ⟨o', e1⟩ := I.base.there b o e hx
    exact free b o' (neC b o e hx) e1 (I.base.free b o e n hx)
  · obtain ⟨o', e1⟩ := I.base.there b o e hx
    exact there b o' (neC b o e hx) e1
  · obtain ⟨m1, e1⟩ := I.base.tbls b ps e
    obtain ⟨m2, e2⟩ := tbls b _ e1
    exact ⟨m1 ++ m2, by rw [e2, Array.append_assoc]⟩
  · obtain ⟨m, hn, hl⟩ := I.loc
    refine ⟨m, ns m hn, fun i x v e1 e2 e3 => ?_⟩
    obtain ⟨u, r, l⟩ := hl i x v e1 e2 e3
    refine ⟨u, r, ?_⟩
    rcases l with l | ⟨k, c, e, z⟩
    · exact .inl l
    · exact .inr ⟨k, c, e, cellK x c e _ z⟩
  · obtain ⟨v, z⟩ := I.cell x c e
    exact ⟨v, cellK x c e v z⟩
  · obtain ⟨m, ⟨o, _, _, ho, _⟩, _⟩ := I.loc
    exact free _ o (fun z => (hch _ z).2.1 rfl) ho I.free
  · obtain ⟨v, o, ho, hd⟩ := I.cell x c e
    exact free c o (fun z => (hch c z).2.2.1 x c e rfl) ho (I.freeC x c e)
  · obtain ⟨e, n, ne, nf, d⟩ := I.pin p hp
    have nch : p.1 ∉ ch := fun z => (hch p.1 z).2.2.2 p hp rfl
    exact ⟨keep p.1 p.2 ne nf nch e n, free p.1 p.2 nch e n, ne, nf, d⟩
/-- .. where the frame's own object is kept too -/
theorem Inv.un {t' : Nat} (I : Inv X pins σ H s) (u : Un X.fs [] H H' s.heap h') (hok : HOk X.prog X.w H' h') : Inv X pins σ H' { s with heap := h', toks := t' } := by
  obtain ⟨m, ⟨o, es, ep, ho, r⟩, _⟩ := id I.loc
  obtain ⟨sl, hL⟩ := u.any ho I.free (by simp)
  exact I.step (g' := s.gens) (d' := s.drawn) (ch := []) (fun _ z => nomatch z) (fun b o _ hb _ e n => u.keep b o e n hb (by simp)) (fun b o _ hb _ e n => u.slot b o e n hb (by simp)) (fun b o _ e n => u.free b o e n (by simp)) (fun b o _ e => u.there b o e (by simp)) u.tups u.frzs u.tbls (fun m' hm => by
    obtain ⟨o', es', ep', ho', r'⟩ := hm
    rw [ho] at ho'; cases ho'
    exact ⟨_, es', ep', hL, r'⟩) hok I.bare
/-- behind a call (or a comprehension's block): the slots of this frame may have changed too, the records at ch may have turned -/
theorem Inv.call {g' : Array GenState} {t' : Nat} {d' : Drawn} {ch : List Addr} (I : Inv X pins σ H s) (u : Un (frs X.stack) ch H H' s.heap h') (hok : HOk X.prog X.w H' h') (hg : AllBare g')
    (hch : ∀ b ∈ ch, (b ∈ X.ex ∨ X.s₀.heap.objs.size ≤ b) ∧ b ≠ X.env.locals ∧ (∀ x c, X.env.cells.lookup x = some c → c ≠ b) ∧ ∀ p ∈ X.pn ++ pins, p.1 ≠ b) :
    Inv X pins σ H' { s with heap := h', gens := g', drawn := d', toks := t' } := by
  obtain ⟨m, ⟨o, es, ep, ho, r⟩, _⟩ := id I.loc
  obtain ⟨sl, hL⟩ := u.any ho I.free fun z => (hch _ z).2.1 rfl
  exact I.step (ch := ch) hch (fun b o hL hb hc e n => u.keep b o e n (fun z => (List.mem_cons.mp (I.stkSub b z)).elim hL hb) hc) (fun b o _ _ hc e n => u.any e n hc) (fun b o hc e n => u.free b o e n hc) (fun b o hc e => u.there b o e hc) u.tups u.frzs u.tbls (fun m' hm => by
    obtain ⟨o', es', ep', ho', r'⟩ := hm
    rw [ho] at ho'; cases ho'
    exact ⟨_, es', ep', hL, r'⟩) hok hg
/-- an untracked record of ours (an iterator) has turned -/
theorem Inv.turned {t' : Nat} {it : Addr} (I : Inv X pins σ H s) (k : ∀ b o, b ≠ it → s.heap.get? b = some o → h'.get? b = some o) (hn : H it = none) (hL : it ≠ X.env.locals)
    (h1 : it ∈ X.ex ∨ X.s₀.heap.objs.size ≤ it) (h2 : ∀ x c, X.env.cells.lookup x = some c → c ≠ it) (h3 : ∀ p ∈ X.pn ++ pins, p.1 ≠ it) : Inv X pins σ H { s with heap := h', toks := t' } := by
  have nit : ∀ b u, H b = some u → b ≠ it := fun b u e z => by rw [z, hn] at e; cases e
  refine I.step (g' := s.gens) (d' := s.drawn) (ch := [it]) (fun b hb => ?_) (fun b o _ _ hc e _ => k b o (fun z => hc (by simp [z])) e) (fun b o _ _ hc e _ => ⟨o.slots, k b o (fun z => hc (by simp [z])) e⟩) (fun _ _ _ _ n => n)
    (fun b o hc e => ⟨o, k b o (fun z => hc (by simp [z])) e⟩) (fun _ _ e => e) (fun _ _ _ e => e) (fun b ps e => ⟨#[], by rw [e]; simp⟩) (fun m hm => ?_) (fun b u e => ?_) I.bare
  · have e : b = it := by simpa using hb
    subst e
    exact ⟨h1, hL, h2, h3⟩
  · obtain ⟨o, es, ep, ho, r⟩ := hm
    exact ⟨o, es, ep, k _ o (Ne.symm hL) ho, r⟩
  · refine (I.hok b u e).stay (fun c v hc q => k c v ?_ q) (fun _ q => q) fun _ _ q => q
    rcases hc with z | z
    · rw [z]; exact nit b u e
    · exact nit c _ z
theorem Inv.tok (I : Inv X pins σ H s) (t : Nat) : Inv X pins σ H { s with toks := t } := I.un (h' := s.heap) (t' := t) Un.refl I.hok
/-- all objects kept -/
theorem Inv.kept {t' : Nat} (I : Inv X pins σ H s) (k : ∀ b u, s.heap.get? b = some u → h'.get? b = some u) : Inv X pins σ H { s with heap := h', toks := t' } := I.un (Un.kept k) (I.hok.kept k)
/-- a new object laid and tracked -/
theorem Inv.laid {a : Addr} {o : HO} {t' : Nat} (I : Inv X pins σ H s) (k : ∀ b u, s.heap.get? b = some u → h'.get? b = some u) (hp : s.heap.objs.size ≤ a) (new : ObjOk X.prog X.w (upd H a o) h' a o) :
    Inv X pins σ (upd H a o) { s with heap := h', toks := t' } := I.un (Un.laid k hp (I.hok.fresh hp)) (I.hok.laid k hp new)
/-- an object written -/
theorem Inv.write {x e : Addr} {o : HO} {t' : Nat} (I : Inv X pins σ H s) (mu : Mut (H x)) (he : e = x ∨ H e = some (.own x)) (k : ∀ b u, b ≠ e → s.heap.get? b = some u → h'.get? b = some u) (heo : ∃ u, h'.get? e = some u)
    (new : ObjOk X.prog X.w (upd H x o) h' x o) : Inv X pins σ (upd H x o) { s with heap := h', toks := t' } := I.un (Un.write mu he k heo) (I.hok.write mu he k heo new)
/-- forgetting slots, pins -/
theorem Inv.weak {σ' : List (Option V)} (I : Inv X pins σ H s) (hl : σ'.length = σ.length) (w : ∀ (i : Nat) v, σ'[i]? = some (some v) → σ[i]? = some (some v)) : Inv X pins σ' H s :=
  ⟨I.ok, I.os, I.bare, I.base, let ⟨m, hn, hl'⟩ := I.loc; ⟨m, hn, fun i x v e1 e2 e3 => hl' i x v e1 (w i v e2) e3⟩, I.cell, I.free, I.freeC, I.pin, I.hok, hl.trans I.len⟩
theorem Inv.pins_of {pins' : List (Addr × Obj)} (I : Inv X pins σ H s) (h : ∀ p ∈ pins', s.heap.get? p.1 = some p.2 ∧ H p.1 = none ∧ p.1 ≠ X.env.locals ∧ p.1 ∉ X.fs ∧ ∀ v, p.2.data ≠ .cell v) : Inv X pins' σ H s :=
  ⟨I.ok, I.os, I.bare, I.base, I.loc, I.cell, I.free, I.freeC, fun p hp => (List.mem_append.mp hp).elim (fun z => I.pin p (List.mem_append_left _ z)) (h p), I.hok, I.len⟩

theorem nodup_ix {N : List Str} (hN : N.Nodup) {i j : Nat} {x : Str} (a : N[i]? = some x) (b : N[j]? = some x) : i = j := by
  obtain ⟨h1, e1⟩ := List.getElem?_eq_some_iff.mp a
  obtain ⟨h2, e2⟩ := List.getElem?_eq_some_iff.mp b
  exact (List.getElem_inj hN).mp (e1.trans e2.symm)

/-- a name is stored; what changed -/
theorem store_ok2 {M : Model} {A : Around} {E : Value → Shared → Prop} {i : Nat} {x : Str} {v : V} {u : Value} {Q : Unit → Shared → Prop} (I : Inv X pins σ H s) (hN : X.N.Nodup) (hi : X.N[i]? = some x) (hx : Loc X.env.scope x) (r : RelV v u)
    (h : ∀ s', Inv X pins (σ.set i (some v)) H s' → (∃ a, Heap.SameBut a s.heap s'.heap ∧ (a = X.env.locals ∨ X.env.cells.lookup x = some a)) → Q () s') (hf : X.fn x = true ∨ X.env.scope.names.lookup x = some .local := by first | exact .inl rfl | exact .inr rfl | assumption) : wpAny M A (storeName X.env x u) Q E s := by
  obtain ⟨m, hn, hl⟩ := id I.loc
  have hcls : (X.env.scope.kind == .class || (X.env.scope.kind == .module && X.env.locals != X.env.globals)) = false := by rw [I.ok.kind]; rfl
  have hiσ : i < σ.length := by rw [I.len]; exact (List.getElem?_eq_some_iff.mp hi).1
  have cne := I.cne
  have tracked : ∀ {a : Addr} {h' : Heap}, (∃ o, s.heap.get? a = some o ∧ H a = none) → Heap.SameBut a s.heap h' → HOk X.prog X.w H h' := fun {a h'} ha hs b ob e => by
    obtain ⟨_, _, hfree⟩ := ha
    refine (I.hok b ob e).stay (fun c w' hc q => (hs.2 c ?_).trans q) (fun _ q => q) fun _ _ q => q
    rintro rfl
    rcases hc with rfl | hc
    · rw [hfree] at e; cases e
    · rw [hfree] at hc; cases hc
  rcases hx with hk | hk
  · refine wpAny_storeName_local hk hn (fun h' hn' hs => ?_) hcls
    obtain ⟨oL, _, _, hoL, _⟩ := id hn
    refine h _ ⟨I.ok, I.os, I.bare, ⟨fun b o e n hb hx => ?_, fun b o e n hb hx => ?_, I.base.free, fun b o e hx => ?_, I.base.tups, I.base.frzs, I.base.tbls⟩, ⟨_, hn', fun j y v' e1 e2 e3 => ?_⟩, fun y c e => ?_, I.free, I.freeC, fun p hp => ?_, tracked ⟨oL, hoL, I.free⟩ hs, by simpa using I.len⟩ ⟨_, hs, .inl rfl⟩
    · exact (hs.2 b (Nat.ne_of_lt (Nat.lt_of_lt_of_le (Heap.lt_size e) I.ok.above))).trans (I.base.keep b o e n hb hx)
    · obtain ⟨sl, e1⟩ := I.base.slot b o e n hb hx
      exact ⟨sl, (hs.2 b (Nat.ne_of_lt (Nat.lt_of_lt_of_le (Heap.lt_size e) I.ok.above))).trans e1⟩
    · obtain ⟨o', e1⟩ := I.base.there b o e hx
      exact ⟨o', (hs.2 b (Nat.ne_of_lt (Nat.lt_of_lt_of_le (Heap.lt_size e) I.ok.above))).trans e1⟩
    · by_cases hj : j = i
      · subst hj
        rw [hi] at e1; cases e1
        rw [List.getElem?_set_self hiσ] at e2
        cases e2
        exact ⟨u, r, .inl ⟨hk, by simp⟩⟩
      · rw [List.getElem?_set_ne (Ne.symm hj)] at e2
        obtain ⟨u', r', q⟩ := hl j y v' e1 e2 e3
        refine ⟨u', r', ?_⟩
        rcases q with ⟨k, e⟩ | ⟨k, c, e, z⟩
        · refine .inl ⟨k, ?_⟩
          have : y ≠ x := fun e => hj (nodup_ix hN e1 (e ▸ hi))
          simp [this, e]
        · exact .inr ⟨k, c, e, z.sameBut hs (cne y c e)⟩
    · obtain ⟨w', z⟩ := I.cell y c e
      exact ⟨w', z.sameBut hs (cne y c e)⟩
    · obtain ⟨e, n, ne, nf, d⟩ := I.pin p hp
      exact ⟨(hs.2 p.1 ne).trans e, n, ne, nf, d⟩
  · have hfn : X.fn x = true := by
      rcases hf with z | z
      · exact z
      · rw [z] at hk; cases hk
    obtain ⟨c, hc⟩ := I.ok.has x (.inl hk)
    obtain ⟨w', z⟩ := I.cell x c hc
    refine wpAny_storeName_cell I.ok.kind hk hc z (fun h' hc' hs => ?_)
    obtain ⟨oc, hoc, hocd⟩ := id z
    refine h { s with heap := h' } ⟨I.ok, I.os, I.bare, ⟨fun b o e n hb hx => ?_, fun b o e n hb hx => ?_, I.base.free, fun b o e hx => ?_, I.base.tups, I.base.frzs, I.base.tbls⟩, ⟨m, hn.sameBut hs (Ne.symm (cne x c hc)), fun j y v' e1 e2 e3 => ?_⟩, fun y c' e => ?_, I.free, I.freeC, fun p hp => ?_, tracked ⟨oc, hoc, I.freeC x c hc⟩ hs, by simpa using I.len⟩ ⟨c, hs, .inr hc⟩
    · exact (hs.2 b (Nat.ne_of_lt (Nat.lt_of_lt_of_le (Heap.lt_size e) (I.ok.cab x c hfn hc)))).trans (I.base.keep b o e n hb hx)
    · obtain ⟨sl, e1⟩ := I.base.slot b o e n hb hx
      exact ⟨sl, (hs.2 b (Nat.ne_of_lt (Nat.lt_of_lt_of_le (Heap.lt_size e) (I.ok.cab x c hfn hc)))).trans e1⟩
    · obtain ⟨o', e1⟩ := I.base.there b o e hx
      exact ⟨o', (hs.2 b (Nat.ne_of_lt (Nat.lt_of_lt_of_le (Heap.lt_size e) (I.ok.cab x c hfn hc)))).trans e1⟩
    · by_cases hj : j = i
      · subst hj
        rw [hi] at e1; cases e1
        rw [List.getElem?_set_self hiσ] at e2
        cases e2
        exact ⟨u, r, .inr ⟨.inl hk, c, hc, hc'⟩⟩
      · rw [List.getElem?_set_ne (Ne.symm hj)] at e2
        obtain ⟨u', r', q⟩ := hl j y v' e1 e2 e3
        refine ⟨u', r', ?_⟩
        rcases q with q | ⟨k, c', e, z'⟩
        · exact .inl q
        · refine .inr ⟨k, c', e, z'.sameBut hs ?_⟩
          rintro rfl
          exact hj (nodup_ix hN e1 (I.ok.inj _ _ _ e hc ▸ hi))
    · by_cases hcc : c' = c
      · subst hcc; exact ⟨_, hc'⟩
      · obtain ⟨w2, z2⟩ := I.cell y c' e
        exact ⟨w2, z2.sameBut hs hcc⟩
    · obtain ⟨e, n, ne, nf, d⟩ := I.pin p hp
      refine ⟨(hs.2 p.1 ?_).trans e, n, ne, nf, d⟩
      intro q
      rw [q, hoc] at e
      have q' : oc = p.2 := Option.some.inj e
      exact d w' (by rw [← q']; exact hocd)
theorem store_ok {M : Model} {A : Around} {E : Value → Shared → Prop} {i : Nat} {x : Str} {v : V} {u : Value} {Q : Unit → Shared → Prop} (I : Inv X pins σ H s) (hN : X.N.Nodup) (hi : X.N[i]? = some x) (hx : Loc X.env.scope x) (r : RelV v u)
    (h : ∀ s', Inv X pins (σ.set i (some v)) H s' → Q () s') (hf : X.fn x = true ∨ X.env.scope.names.lookup x = some .local := by first | exact .inl rfl | exact .inr rfl | assumption) : wpAny M A (storeName X.env x u) Q E s :=
  store_ok2 I hN hi hx r (fun s' I' _ => h s' I') hf
/-- behind a call or a block, the state as it is -/
theorem Inv.call' {s' : Shared} {ch : List Addr} (I : Inv X pins σ H s) (ho : s'.os = s.os) (u : Un (frs X.stack) ch H H' s.heap s'.heap) (hok : HOk X.prog X.w H' s'.heap) (hg : AllBare s'.gens)
    (hch : ∀ b ∈ ch, (b ∈ X.ex ∨ X.s₀.heap.objs.size ≤ b) ∧ b ≠ X.env.locals ∧ (∀ x c, X.env.cells.lookup x = some c → c ≠ b) ∧ ∀ p ∈ X.pn ++ pins, p.1 ≠ b) : Inv X pins σ H' s' := by
  obtain ⟨h', g', d', t', o'⟩ := s'
  have e : o' = s.os := ho
  subst e
  exact I.call (g' := g') (t' := t') (d' := d') u hok hg hch
end

/-! ### the judgements -/
/-- an exception: its class, its own dict's address (where it has one), the abstract heap behind it -/
noncomputable abbrev XK := Value → Option Addr → Hp → Prop
noncomputable abbrev St := List (Option V)
noncomputable abbrev VK := V → Hp → Prop
/-- an expression's reading; a test's; an argument list's -/
noncomputable abbrev TE := St → Hp → VK → Prop
noncomputable abbrev TT := St → Hp → (Bool → Hp → Prop) → Prop
noncomputable abbrev TA := St → Hp → (List V → Hp → Prop) → Prop
/-- what is wanted behind a statement -/
structure Ends where
  nx : St → Hp → Prop
  rt : VK
  bk : St → Hp → Prop := fun _ _ => False
  ct : St → Hp → Prop := fun _ _ => False
noncomputable abbrev TS := Ends → St → Hp → Prop

noncomputable def EP (X : Cx) (pins : List (Addr × Obj)) (σ : St) (Q : VK) (u : Value) (s' : Shared) : Prop := ∃ v H', Inv X pins σ H' s' ∧ RelV v u ∧ Q v H'
noncomputable def TP (X : Cx) (pins : List (Addr × Obj)) (σ : St) (Q : Bool → Hp → Prop) (b : Bool) (s' : Shared) : Prop := ∃ H', Inv X pins σ H' s' ∧ Q b H'
noncomputable def AP (X : Cx) (pins : List (Addr × Obj)) (σ : St) (Q : List V → Hp → Prop) (us : List Value) (s' : Shared) : Prop := ∃ vs H', Inv X pins σ H' s' ∧ Vals vs us ∧ Q vs H'
noncomputable def SP (X : Cx) (pins : List (Addr × Obj)) (D : Ends) (f : Flow) (s' : Shared) : Prop :=
  match f with
  | .next => ∃ σ' H', Inv X pins σ' H' s' ∧ D.nx σ' H'
  | .brk => ∃ σ' H', Inv X pins σ' H' s' ∧ D.bk σ' H'
  | .cont => ∃ σ' H', Inv X pins σ' H' s' ∧ D.ct σ' H'
  | .ret u => ∃ v σ' H', Inv X pins σ' H' s' ∧ RelV v u ∧ D.rt v H'

noncomputable def PE (X : Cx) (e : Expr) (t : TE) : Prop :=
  ∀ (pins : List (Addr × Obj)) (s : Shared) (σ : St) (H : Hp) (Q : VK), Inv X pins σ H s → t σ H Q → wpAny (model X.prog X.w) X.A (eval e X.env) (EP X pins σ Q) X.xe s
noncomputable def PT (X : Cx) (e : Expr) (t : TT) : Prop :=
  ∀ (pins : List (Addr × Obj)) (s : Shared) (σ : St) (H : Hp) (Q : Bool → Hp → Prop), Inv X pins σ H s → t σ H Q → wpAny (model X.prog X.w) X.A (isTrue e X.env (eval e X.env)) (TP X pins σ Q) X.xe s
/-- a test whatever its 'whole' is (and, or) -/
noncomputable def PW (X : Cx) (e : Expr) (t : TT) : Prop :=
  ∀ (whole : Sem Value) (pins : List (Addr × Obj)) (s : Shared) (σ : St) (H : Hp) (Q : Bool → Hp → Prop), Inv X pins σ H s → t σ H Q → wpAny (model X.prog X.w) X.A (isTrue e X.env whole) (TP X pins σ Q) X.xe s
theorem PW.pt {X : Cx} {e : Expr} {t : TT} (h : PW X e t) : PT X e t := h _
/-- an argument list (no star), from the left -/
noncomputable def PA (X : Cx) (es : List Expr) (t : TA) : Prop :=
  ∀ (pos : Pos) (pins : List (Addr × Obj)) (s : Shared) (σ : St) (H : Hp) (Q : List V → Hp → Prop), Inv X pins σ H s → t σ H Q → wpAny (model X.prog X.w) X.A (spliced (backTo pos (starEach es X.env))) (AP X pins σ Q) X.xe s
noncomputable def PS (X : Cx) (st : Stmt) (t : TS) : Prop :=
  ∀ (pins : List (Addr × Obj)) (s : Shared) (σ : St) (H : Hp) (D : Ends), Inv X pins σ H s → t D σ H → wpAny (model X.prog X.w) X.A (exec st X.env) (SP X pins D) X.xe s
noncomputable def PSs (X : Cx) (st : List Stmt) (t : TS) : Prop :=
  ∀ (pins : List (Addr × Obj)) (s : Shared) (σ : St) (H : Hp) (D : Ends), Inv X pins σ H s → t D σ H → wpAny (model X.prog X.w) X.A (execs st X.env) (SP X pins D) X.xe s
/-- weaken the end -/
theorem thn {α : Type} {t : Sem α} {Q Q' : α → Shared → Prop} {M : Model} {A : Around} {E : Value → Shared → Prop} {s : Shared} (h : wpAny M A t Q E s) (hQ : ∀ a s, Q a s → Q' a s) : wpAny M A t Q' E s := wpAny_mono h hQ fun _ _ x => x
end L2

namespace L2
open PySem PySem.Spec PyProof.Rows
section
variable {X : Cx}

/-! ### names and constants -/
noncomputable def tVar (i : Nat) : TE := fun σ H Q => ∃ v, σ[i]? = some (some v) ∧ Q v H
noncomputable def tC (v : V) : TE := fun _ H Q => Q v H
theorem pe_var {i : Nat} {x : Str} {pos : Pos} (hN : X.N[i]? = some x) (hv : Vis X.env.scope x) (hd : (x == ("__debug__" : Str)) = false := by decide) (hcd : (x == ("__classdict__" : Str)) = false := by decide) : PE X (.Name x pos) (tVar i) := by
  intro pins s σ H Q I h
  obtain ⟨v, e, h⟩ := h
  obtain ⟨m, hn, hl⟩ := I.loc
  obtain ⟨u, r, l⟩ := hl i x v hN e hv
  have fin : EP X pins σ Q u s := ⟨v, H, I, r, h⟩
  rcases l with ⟨hk, hm⟩ | ⟨hk, c, hc, hcell⟩
  · exact wpAny_Name (wpAny_loadName_local I.ok.kind hk hn hm fin) hd
  · rcases hk with hk | hk
    · exact wpAny_Name (wpAny_loadName_cell I.ok.kind hk hc hcell fin) hd
    · exact wpAny_Name (wpAny_loadName_free I.ok.kind hk hc hcell fin hcd) hd
theorem pe_int {i j pos} : PE X (.Constant (.int i) j pos) (tC (.int i)) := fun _ _ _ H _ I h => wpAny_Constant_int ⟨.int i, H, I.tok _, ⟨_, rfl⟩, h⟩
theorem pe_bl {b j pos} : PE X (.Constant (.bool b) j pos) (tC (.bl b)) := fun _ _ _ H _ I h => Constant_bool ⟨.bl b, H, I, rfl, h⟩
theorem pe_non {j pos} : PE X (.Constant .none j pos) (tC .non) := fun _ _ _ H _ I h => Constant_none ⟨.non, H, I, rfl, h⟩
theorem pe_str {x j pos} : PE X (.Constant (.str x) j pos) (tC (.str x)) := fun _ _ _ H _ I h => Calls.Constant_str ⟨.str x, H, I.tok _, ⟨_, rfl⟩, h⟩

/-- a global name of the def -/
noncomputable def Gl (X : Cx) (x : Str) : Prop := X.env.kindOf x = some .globalImplicit
theorem ld_glob {E : Value → Shared → Prop} {pins : List (Addr × Obj)} {s : Shared} {σ : St} {H : Hp} {x : Str} {u : Value} {pos : Pos} {Q : Value → Shared → Prop} (I : Inv X pins σ H s) (hg : Gl X x) (hm : X.mg x = some u) (h : Q u s)
    (hd : (x == ("__debug__" : Str)) = false := by decide) : wpAny (model X.prog X.w) X.A (eval (.Name x pos) X.env) Q E s :=
  Calls.Name_function_global I.ok.kind hg (Calls.loadGlobal_global (by rw [I.ok.glob]; exact I.mod.glob.keeps I.bk) hm h) hd
theorem ld_blt {E : Value → Shared → Prop} {pins : List (Addr × Obj)} {s : Shared} {σ : St} {H : Hp} {x : Str} {u : Value} {pos : Pos} {Q : Value → Shared → Prop} (I : Inv X pins σ H s) (hg : Gl X x) (hm : X.mg x = none) (hv : bootBuiltins x = some u) (h : Q u s)
    (hn : x ≠ "__name__" := by decide) (hd : (x == ("__debug__" : Str)) = false := by decide) : wpAny (model X.prog X.w) X.A (eval (.Name x pos) X.env) Q E s := by
  obtain ⟨mb, h1, h2⟩ := I.mod.blt
  exact Calls.Name_function_global I.ok.kind hg (Calls.loadGlobal_builtin (by rw [I.ok.glob]; exact I.mod.glob.keeps I.bk) hm (by rw [I.ok.blt]; exact h1.keeps I.bk) ((h2 x hn).trans hv) h) hd
/-- a module's constant, a class, a function, as a value -/
theorem pe_glob {x : Str} {v : V} {u : Value} {pos : Pos} (hg : Gl X x) (hm : X.mg x = some u) (r : RelV v u) (hd : (x == ("__debug__" : Str)) = false := by decide) : PE X (.Name x pos) (tC v) :=
  fun _ _ _ H _ I h => ld_glob I hg hm ⟨v, H, I, r, h⟩ hd
theorem pe_bltn {x : Str} {v : V} {u : Value} {pos : Pos} (hg : Gl X x) (hm : X.mg x = none) (hv : bootBuiltins x = some u) (r : RelV v u) (hn : x ≠ "__name__" := by decide) (hd : (x == ("__debug__" : Str)) = false := by decide) : PE X (.Name x pos) (tC v) :=
  fun _ _ _ H _ I h => ld_blt I hg hm hv ⟨v, H, I, r, h⟩ hn hd

/-! ### arithmetic -/
variable {a b : Expr} {ta tb : TE} {pos : Pos}
/-! ### comparisons -/
/-- a comparison as a value, as a test -/
noncomputable def tB (t : TE) : TT := fun σ H Q => t σ H fun x H1 => ∃ c, x = .bl c ∧ Q c H1
/-- an expression whose value is a bool, as a test -/
theorem pt_val {e : Expr} {t : TE} (h : PE X e t) (he : ∀ whole, isTrue e X.env whole = (do let v ← whole; standAt e.pos; holding [v] (truthy v)) := by intro _; rfl) : PT X e (tB t) := by
  intro pins s σ H Q I hw
  refine isTrue_plain (thn (h pins s σ H _ I hw) fun v s1 ⟨x, H1, I1, r1, q1⟩ => ?_) (he _)
  obtain ⟨d, rfl, q⟩ := q1
  cases r1
  exact wpAny_truthy_bool ⟨H1, I1, q⟩

/-! ### and, or, not -/
variable {tA tB' : TT} {rest : List Expr}
noncomputable def tAnd (t u : TT) : TT := fun σ H Q => t σ H fun c H1 => if c = true then u σ H1 Q else Q false H1
noncomputable def tOr (t u : TT) : TT := fun σ H Q => t σ H fun c H1 => if c = true then Q true H1 else u σ H1 Q
noncomputable def tNot (t : TT) : TT := fun σ H Q => t σ H fun c H1 => Q (!c) H1
theorem pw_and1 (ha : PT X a tA) : PW X (.BoolOp .And [a] pos) tA := by
  intro wh pins s σ H Q I h
  refine isTrue_and (thn (ha pins s σ H Q I h) fun c s1 e => ?_)
  cases c with
  | true => exact isTrue_and_nil e
  | false => exact e
theorem pw_or1 (ha : PT X a tA) : PW X (.BoolOp .Or [a] pos) tA := by
  intro wh pins s σ H Q I h
  refine isTrue_or (thn (ha pins s σ H Q I h) fun c s1 e => ?_)
  cases c with
  | false => exact isTrue_or_nil e
  | true => exact e
theorem pw_and (ha : PT X a tA) (hb : PW X (.BoolOp .And (b :: rest) pos) tB') : PW X (.BoolOp .And (a :: b :: rest) pos) (tAnd tA tB') := by
  intro wh pins s σ H Q I h
  refine isTrue_and (thn (ha pins s σ H _ I h) fun c s1 ⟨H1, I1, q1⟩ => ?_)
  cases c with
  | true => exact hb wh pins s1 σ H1 Q I1 q1
  | false => exact ⟨H1, I1, q1⟩
theorem pw_or (ha : PT X a tA) (hb : PW X (.BoolOp .Or (b :: rest) pos) tB') : PW X (.BoolOp .Or (a :: b :: rest) pos) (tOr tA tB') := by
  intro wh pins s σ H Q I h
  refine isTrue_or (thn (ha pins s σ H _ I h) fun c s1 ⟨H1, I1, q1⟩ => ?_)
  cases c with
  | true => exact ⟨H1, I1, q1⟩
  | false => exact hb wh pins s1 σ H1 Q I1 q1
theorem pt_not (ha : PT X a tA) : PT X (.UnaryOp .Not a pos) (tNot tA) := by
  intro pins s σ H Q I h
  exact isTrue_not (ha pins s σ H (fun c H1 => Q (!c) H1) I h)
/-- .. as values (bools) -/
noncomputable def tAndV (ta tb : TE) : TE := fun σ H Q => ta σ H fun x H1 => ∃ c, x = .bl c ∧ if c = true then tb σ H1 Q else Q (.bl false) H1
theorem pe_one {op} {t : TE} (h : PE X a t) : PE X (.BoolOp op [a] pos) t := fun pins s σ H Q I hw => BoolOp_one (h pins s σ H Q I hw)
theorem pe_and (ha : PE X a ta) (hb : PE X (.BoolOp .And (b :: rest) pos) tb) : PE X (.BoolOp .And (a :: b :: rest) pos) (tAndV ta tb) := by
  intro pins s σ H Q I h
  refine BoolOp_and (thn (ha pins s σ H _ I h) fun v s1 ⟨x, H1, I1, r1, q1⟩ => ?_)
  obtain ⟨c, rfl, q1⟩ := q1
  cases r1
  refine wpAny_truthy_bool ?_
  cases c with
  | true => exact hb pins s1 σ H1 Q I1 q1
  | false => exact ⟨.bl false, H1, I1, rfl, q1⟩
/-- a if t else b -/
noncomputable def tIf (t : TT) (ta tb : TE) : TE := fun σ H Q => t σ H fun c H1 => if c = true then ta σ H1 Q else tb σ H1 Q
theorem pe_ifExp {c : Expr} (hc : PT X c tA) (ha : PE X a ta) (hb : PE X b tb) : PE X (.IfExp c a b pos) (tIf tA ta tb) := by
  intro pins s σ H Q I h
  refine wpAny_IfExp (thn (hc pins s σ H _ I h) fun d s1 ⟨H1, I1, q1⟩ => ?_)
  cases d with
  | true => exact ha pins s1 σ H1 Q I1 q1
  | false => exact hb pins s1 σ H1 Q I1 q1
end
end L2

namespace L2
open PySem PySem.Spec PyProof.Rows

/-! ### a list, a tuple that is read: tracked, frozen, or an object of the module -/
noncomputable def SqL (K : PySem.W.Frag) (H : Hp) (a : Addr) (xs : List V) : Prop :=
  Rd H a (.lst xs) ∨
    ∃ (o : Obj) (its : Array Value) (n : Nat), K.lookup a = some o ∧ o.cls = .type "list" ∧ o.dict = none ∧ o.data = .seq its n ∧ its.size ≤ sizeLine ∧ Vals xs its.toList
noncomputable def SqT (K : PySem.W.Frag) (H : Hp) (a : Addr) (xs : List V) : Prop :=
  Rd H a (.tup xs) ∨
    ∃ (o : Obj) (its : Array Value) (n : Nat), K.lookup a = some o ∧ o.cls = .type "tuple" ∧ o.data = .seq its n ∧ its.size ≤ sizeLine ∧ Vals xs its.toList
noncomputable def absV : Value → Option V
  | .none => some .non
  | .bool b => some (.bl b)
  | .int i _ => some (.int i)
  | .str x _ => some (.str x)
  | .bytes b _ => some (.byt b)
  | .float b _ => some (.flt b)
  | .ref a => some (.ref a)
  | .type n => some (.ty n)
  | _ => none
theorem RelV.abs {x : V} {u : Value} (r : RelV x u) : absV u = some x := by
  cases x with
  | non => cases r; rfl
  | bl _ => cases r; rfl
  | int _ => obtain ⟨t, rfl⟩ := r; rfl
  | str _ => obtain ⟨t, rfl⟩ := r; rfl
  | byt _ => obtain ⟨t, rfl⟩ := r; rfl
  | flt _ => obtain ⟨t, rfl⟩ := r; rfl
  | ref _ => cases r; rfl
  | ty _ => cases r; rfl
theorem RelV.inj {x y : V} {u : Value} (r : RelV x u) (q : RelV y u) : x = y := Option.some.inj (r.abs.symm.trans q.abs)
theorem Vals.inj : ∀ {xs ys : List V} {us : List Value}, Vals xs us → Vals ys us → xs = ys
  | _, _, _, .nil, .nil => rfl
  | _, _, _, .cons r t, .cons r' t' => by rw [r.inj r', Vals.inj t t']
section
variable {X : Cx} {pins : List (Addr × Obj)} {σ : St} {H : Hp} {s : Shared} {a : Addr} {xs ys : List V}
theorem SqL.of {K : PySem.W.Frag} (h : H a = some (.lst xs)) : SqL K H a xs := .inl (.inl h)
theorem SqT.of {K : PySem.W.Frag} (h : H a = some (.tup xs)) : SqT K H a xs := .inl (.inl h)
theorem Inv.list (I : Inv X pins σ H s) (h : SqL X.K H a xs) : ∃ its : List Value, Vals xs its ∧ PlainL s.heap a its.toArray ∧ xs.length ≤ sizeLine := by
  rcases h with h | ⟨o, its, n, hk, hc, hd, hs, hz, r⟩
  · obtain ⟨z, its, n, r, e⟩ := h.ok I.hok
    exact ⟨its, r, ⟨_, n, e, rfl, rfl, rfl⟩, z⟩
  · refine ⟨its.toList, r, ⟨o, n, I.kIn a o hk, hc, hd, by simpa using hs⟩, ?_⟩
    have e := r.length
    simp only [Array.length_toList] at e
    omega
theorem Inv.tuple (I : Inv X pins σ H s) (h : SqT X.K H a xs) : ∃ its : List Value, Vals xs its ∧ IsTup s.heap a its.toArray ∧ xs.length ≤ sizeLine := by
  rcases h with h | ⟨o, its, n, hk, hc, hs, hz, r⟩
  · obtain ⟨z, its, r, p⟩ := h.ok I.hok
    exact ⟨its, r, p, z⟩
  · refine ⟨its.toList, r, ⟨o, I.kIn a o hk, hc, n, by simpa using hs⟩, ?_⟩
    have e := r.length
    simp only [Array.length_toList] at e
    omega
theorem Inv.list_inj (I : Inv X pins σ H s) (h : SqL X.K H a xs) (h' : SqL X.K H a ys) : xs = ys := by
  obtain ⟨its, r, ⟨o, n, e, _, _, d⟩, _⟩ := I.list h
  obtain ⟨its', r', ⟨o', n', e', _, _, d'⟩, _⟩ := I.list h'
  rw [e] at e'; cases e'
  rw [d] at d'
  injection d' with d1 _
  have : its = its' := by simpa using congrArg Array.toList d1
  subst this
  exact r.inj r'
end

/-! ### another wish about exceptions -/
noncomputable abbrev Cx.wish (X : Cx) (E : Value → Shared → Prop) : Cx := { X with xe := E }
/-- no exception leaves -/
noncomputable abbrev Cx.nox (X : Cx) : Cx := X.wish fun _ _ => False
theorem Cx.Ok.wish {X : Cx} (ok : X.Ok) (E : Value → Shared → Prop) : (X.wish E).Ok :=
  ⟨ok.mod, ok.kind, ok.glob, ok.blt, ok.above, ok.inj, ok.has, ok.cab, ok.hd, ok.frames, ok.stk, ok.exf, ok.bs, ok.bsz, ok.noex, ok.exfs, ok.funs, ok.frf⟩
theorem Cx.Ok.unwish {X : Cx} {E : Value → Shared → Prop} (ok : (X.wish E).Ok) : X.Ok :=
  ⟨ok.mod, ok.kind, ok.glob, ok.blt, ok.above, ok.inj, ok.has, ok.cab, ok.hd, ok.frames, ok.stk, ok.exf, ok.bs, ok.bsz, ok.noex, ok.exfs, ok.funs, ok.frf⟩
section
variable {X : Cx} {pins : List (Addr × Obj)} {σ : St} {H : Hp} {s : Shared} {E : Value → Shared → Prop}
theorem Inv.wish (I : Inv X pins σ H s) (E : Value → Shared → Prop) : Inv (X.wish E) pins σ H s := ⟨I.ok.wish E, I.os, I.bare, I.base, I.loc, I.cell, I.free, I.freeC, I.pin, I.hok, I.len⟩
theorem Inv.unwish (I : Inv (X.wish E) pins σ H s) : Inv X pins σ H s := ⟨I.ok.unwish, I.os, I.bare, I.base, I.loc, I.cell, I.free, I.freeC, I.pin, I.hok, I.len⟩
theorem SP.unwish {D : Ends} {f : Flow} {s' : Shared} (h : SP (X.wish E) pins D f s') : SP X pins D f s' := by
  cases f with
  | next => obtain ⟨σ', H', I, q⟩ := h; exact ⟨σ', H', I.unwish, q⟩
  | brk => obtain ⟨σ', H', I, q⟩ := h; exact ⟨σ', H', I.unwish, q⟩
  | cont => obtain ⟨σ', H', I, q⟩ := h; exact ⟨σ', H', I.unwish, q⟩
  | ret u => obtain ⟨v, σ', H', I, r, q⟩ := h; exact ⟨v, σ', H', I.unwish, r, q⟩
theorem PSs.nox {st : List Stmt} {t : TS} (h : PSs X.nox st t) : PSs X st t := fun pins s σ H D I hw =>
  wpAny_mono (h pins s σ H D (I.wish _) hw) (fun _ _ q => q.unwish) fun _ _ z => False.elim z
end

/-! ### blocks and small statements -/
section
variable {X : Cx} {st : Stmt} {rest : List Stmt} {t u : TS} {e : Expr} {te : TE} {pos : Pos}
noncomputable def tNext : TS := fun D σ H => D.nx σ H
noncomputable def tSeq (t u : TS) : TS := fun D σ H => t { D with nx := u D } σ H
theorem pss_nil : PSs X [] tNext := fun _ _ σ H _ I h => wpAny_execs_nil ⟨σ, H, I, h⟩
theorem pss_cons (h1 : PS X st t) (h2 : PSs X rest u) : PSs X (st :: rest) (tSeq t u) := by
  intro pins s σ H D I h
  refine wpAny_execs_cons (thn (h1 pins s σ H { D with nx := u D } I h) fun f s1 q => ?_)
  cases f with
  | next =>
    obtain ⟨σ', H', I', q⟩ := q
    exact h2 pins s1 σ' H' D I' q
  | ret v => exact q
  | brk => exact q
  | cont => exact q
theorem pss_one (h1 : PS X st t) : PSs X [st] t := by
  intro pins s σ H D I h
  refine wpAny_execs_cons (thn (h1 pins s σ H D I h) fun f s1 q => ?_)
  cases f with
  | next => exact wpAny_execs_nil q
  | ret v => exact q
  | brk => exact q
  | cont => exact q
/-- in a def's body nothing is shown -/
theorem Inv.quiet {pins : List (Addr × Obj)} {σ : St} {H : Hp} {s : Shared} (I : Inv X pins σ H s) : interactive X.env = false := by simp [interactive, I.ok.kind]
/-- an expression whose value is dropped -/
noncomputable def tDrop (te : TE) : TS := fun D σ H => te σ H fun _ H1 => D.nx σ H1
theorem ps_expr (he : PE X e te) (hs : swapsWith e none pos.line X.env = pure false := by rfl) : PS X (.Expr e pos) (tDrop te) := by
  intro pins s σ H D I h
  exact wpAny_Expr_any (thn (he pins s σ H _ I h) fun v s1 ⟨x, H1, I1, r1, q1⟩ => ⟨σ, H1, I1, q1⟩) I.quiet hs
noncomputable def tRet (te : TE) : TS := fun D σ H => te σ H D.rt
theorem ps_ret (he : PE X e te) : PS X (.Return (some e) pos) (tRet te) := by
  intro pins s σ H D I h
  exact wpAny_Return_some (thn (he pins s σ H _ I h) fun v s1 ⟨x, H1, I1, r1, q1⟩ => ⟨x, σ, H1, I1, r1, q1⟩)
noncomputable def tIfS (c : TT) (t u : TS) : TS := fun D σ H => c σ H fun b H1 => if b = true then t D σ H1 else u D σ H1
theorem ps_if {c : Expr} {a b : List Stmt} {tc : TT} (hc : PT X c tc) (ha : PSs X a t) (hb : PSs X b u) : PS X (.If c a b pos) (tIfS tc t u) := by
  intro pins s σ H D I h
  refine wpAny_If (thn (hc pins s σ H _ I h) fun d s1 ⟨H1, I1, q1⟩ => ?_)
  cases d with
  | true => exact ha pins s1 σ H1 D I1 q1
  | false => exact hb pins s1 σ H1 D I1 q1
/-- code that the proof never comes to -/
noncomputable def tNever : TS := fun _ _ _ => False
theorem ps_never : PS X st tNever := fun _ _ _ _ _ _ h => h.elim
end

/-! ### targets -/
noncomputable abbrev TG := V → St → Hp → (St → Hp → Prop) → Prop
noncomputable abbrev TGs := List V → St → Hp → (St → Hp → Prop) → Prop
noncomputable def PG (X : Cx) (target : Expr) (t : TG) : Prop :=
  ∀ (pins : List (Addr × Obj)) (s : Shared) (σ : St) (H : Hp) (v : V) (u : Value) (Q : St → Hp → Prop), Inv X pins σ H s → RelV v u → t v σ H Q →
    wpAny (model X.prog X.w) X.A (assign target X.env u) (fun _ s' => ∃ σ' H', Inv X pins σ' H' s' ∧ Q σ' H') X.xe s
/-- several targets, one after another -/
noncomputable def PGs (X : Cx) (ts : List Expr) (t : TGs) : Prop :=
  ∀ (pins : List (Addr × Obj)) (s : Shared) (σ : St) (H : Hp) (vs : List V) (us : List Value) (Q : St → Hp → Prop), Inv X pins σ H s → Vals vs us → t vs σ H Q →
    wpAny (model X.prog X.w) X.A (assignInOrder ((assignEach ts X.env).map (·.2)) us) (fun _ s' => ∃ σ' H', Inv X pins σ' H' s' ∧ Q σ' H') X.xe s
/-- o[i] = v, by values -/
noncomputable abbrev TSet := V → V → V → Hp → (Hp → Prop) → Prop
noncomputable def PSet (X : Cx) (t : TSet) : Prop :=
  ∀ (pins : List (Addr × Obj)) (s : Shared) (σ : St) (H : Hp) (o i v : V) (ov iv u : Value) (Q : Hp → Prop), Inv X pins σ H s → RelV o ov → RelV i iv → RelV v u → t o i v H Q →
    wpAny (model X.prog X.w) X.A (setItem ov iv u) (fun _ s' => ∃ H', Inv X pins σ H' s' ∧ Q H') X.xe s
section
variable {X : Cx} {pos : Pos}
noncomputable def gName (i : Nat) : TG := fun v σ H Q => Q (σ.set i (some v)) H
theorem pg_name {i : Nat} {x : Str} (hN : X.N.Nodup) (hi : X.N[i]? = some x) (hx : Loc X.env.scope x) (hf : X.fn x = true ∨ X.env.scope.names.lookup x = some .local := by first | exact .inl rfl | exact .inr rfl | assumption) : PG X (.Name x pos) (gName i) := by
  intro pins s σ H v u Q I r h
  exact wpAny_assign_Name (store_ok I hN hi hx r (fun s' I' => ⟨_, H, I', h⟩) hf)
noncomputable def gNil : TGs := fun vs σ H Q => vs = [] ∧ Q σ H
noncomputable def gCons (t : TG) (u : TGs) : TGs := fun vs σ H Q => ∃ v r, vs = v :: r ∧ t v σ H fun σ' H' => u r σ' H' Q
theorem pgs_nil : PGs X [] gNil := by
  intro pins s σ H vs us Q I r h
  obtain ⟨e, h⟩ := h
  subst e
  cases r
  exact assignInOrder_nil ⟨σ, H, I, h⟩
theorem pgs_cons {e : Expr} {es : List Expr} {t : TG} {u : TGs} (h1 : PG X e t) (h2 : PGs X es u)
    (hs : (assignEach (e :: es) X.env).map (·.2) = assign e X.env :: (assignEach es X.env).map (·.2) := by rfl) : PGs X (e :: es) (gCons t u) := by
  intro pins s σ H vs us Q I r h
  obtain ⟨v, vr, e1, h⟩ := h
  subst e1
  cases r with
  | cons r rr =>
    rw [hs]
    refine assignInOrder_cons (thn (h1 pins s σ H _ _ _ I r h) fun _ s1 ⟨σ1, H1, I1, q1⟩ => ?_)
    exact h2 pins s1 σ1 H1 _ _ Q I1 rr q1
/-- (a, b, ..) = a tuple of that length -/
noncomputable def gTup (K : PySem.W.Frag) (n : Nat) (t : TGs) : TG := fun v σ H Q => ∃ a xs, v = .ref a ∧ SqT K H a xs ∧ xs.length = n ∧ t xs σ H Q
theorem pg_tup {es : List Expr} {k : Nat} {t : TGs} {n : Nat} (hc : X.calm = true) (h : PGs X es t)
    (hn : (assignEach es X.env).length = n := by rfl) (hst : (assignEach es X.env).findIdx? (·.1) = none := by rfl) : PG X (.Tuple es k pos) (gTup X.K n t) := by
  intro pins s σ H v u Q I r hw
  obtain ⟨a, xs, e1, hq, hl, hw⟩ := hw
  subst e1
  cases r
  obtain ⟨its, rv, ht, hz⟩ := I.tuple hq
  refine assign_Tuple_tuple (I.ok.hd hc) ht (by simp [hn, ← hl, rv.length]) hst fun h' hx => ?_
  have I1 : Inv X pins σ H { s with heap := h' } := I.kept (t' := s.toks) fun b o e => hx b o (Nat.ne_of_lt (Heap.lt_size e)) e
  exact h pins _ σ H xs _ Q I1 (by simpa using rv) hw
/-- o[i] = .. -/
noncomputable def gSub (to ti : TE) (t : TSet) : TG := fun v σ H Q => to σ H fun o H1 => ti σ H1 fun i H2 => t o i v H2 fun H3 => Q σ H3
theorem pg_sub {o i : Expr} {to ti : TE} {t : TSet} (ho : PE X o to) (hi : PE X i ti) (hs : PSet X t)
    (ha : ∀ v, assign (.Subscript o i pos) X.env v = (do
      let ov ← holding [v] (eval o X.env)
      let iv ← holding [v, ov] (eval i X.env)
      standAt pos
      holding [v, ov, iv] (setItem ov iv v)
      release [v, ov, iv] []) := by intro _; rfl) : PG X (.Subscript o i pos) (gSub to ti t) := by
  intro pins s σ H v u Q I r h
  rw [ha]
  refine wpAny_bind (wpAny_holding (thn (ho pins s σ H _ I h) fun ov s1 ⟨x, H1, I1, r1, q1⟩ => ?_))
  refine wpAny_bind (wpAny_holding (thn (hi pins s1 σ H1 _ I1 q1) fun iv s2 ⟨y, H2, I2, r2, q2⟩ => ?_))
  refine wpAny_bind (wpAny_standAt (wpAny_bind (wpAny_holding (thn (hs pins s2 σ H2 x y v ov iv u _ I2 r1 r2 r q2) fun _ s3 ⟨H3, I3, q3⟩ => ?_))))
  exact wpAny_release ⟨σ, H3, I3, q3⟩
/-- target = value -/
noncomputable def tAsg (te : TE) (g : TG) : TS := fun D σ H => te σ H fun x H1 => g x σ H1 D.nx
theorem ps_asg {tg e : Expr} {te : TE} {g : TG} (he : PE X e te) (hg : PG X tg g) (hs : swapsWithSole [tg] e pos.line X.env = pure false := by rfl) (hw : swappedStores [tg] e X.env = pure none := by rfl)
    (h1 : (assignEach [tg] X.env).map (·.2) = [assign tg X.env] := by rfl) : PS X (.Assign [tg] e pos) (tAsg te g) := by
  intro pins s σ H D I h
  refine wpAny_Assign_stores (thn (he pins s σ H _ I h) fun v s1 ⟨x, H1, I1, r1, q1⟩ => ?_) hs hw
  rw [h1]
  exact thn (hg pins s1 σ H1 x v _ I1 r1 q1) fun _ s2 q => q
/-- name = value -/
theorem ps_set {i : Nat} {x : Str} {e : Expr} {te : TE} {pos' : Pos} (hN : X.N.Nodup) (hi : X.N[i]? = some x) (hx : Loc X.env.scope x) (he : PE X e te) (hs : swapsWith e (some (.Name x pos')) pos.line X.env = pure false := by rfl) (hf : X.fn x = true ∨ X.env.scope.names.lookup x = some .local := by first | exact .inl rfl | exact .inr rfl | assumption) :
    PS X (.Assign [.Name x pos'] e pos) (tAsg te (gName i)) := by
  intro pins s σ H D I h
  refine wpAny_Assign_Name (thn (he pins s σ H _ I h) fun v s1 ⟨y, H1, I1, r1, q1⟩ => ?_) hs
  exact store_ok I1 hN hi hx r1 (fun s2 I2 => ⟨_, H1, I2, q1⟩) hf
end

/-! ### while -/
section
variable {X : Cx} {pos : Pos}
/-- the invariant W with its measure -/
noncomputable def tWhile (c : TT) (tb : TS) : TS := fun D σ H => ∃ W : Nat → St → Hp → Prop, (∃ m, W m σ H) ∧ ∀ m σ H, W m σ H →
  c σ H fun b H1 => if b = true then ∃ N : St → Hp → Prop, (∀ σ' H', N σ' H' → ∃ m', m' < m ∧ W m' σ' H') ∧ tb { D with nx := N, ct := N, bk := D.nx } σ H1 else D.nx σ H1
theorem ps_while {c : Expr} {body : List Stmt} {tc : TT} {tb : TS} (hp : PassesOwn (model X.prog X.w) X.A X.env X.xe) (hc : PT X c tc) (hb : PSs X body tb) : PS X (.While c body [] pos) (tWhile tc tb) := by
  intro pins s σ H D I h
  obtain ⟨W, ⟨m0, w0⟩, turn⟩ := h
  refine wpAny_While (codeAny_whileLoop (fun n s' => ∃ σ' H', Inv X pins σ' H' s' ∧ W n σ' H') ?_ m0 ⟨σ, H, I, w0⟩)
  rintro n s1 ⟨σ1, H1, I1, w1⟩
  refine wpAny_passesOwn hp (thn (hc pins s1 σ1 H1 _ I1 (turn n σ1 H1 w1)) fun b s2 ⟨H2, I2, q2⟩ => ?_)
  cases b with
  | true =>
    obtain ⟨N, hN, q2⟩ := q2
    rw [if_pos rfl]
    refine wpAny_passesOwn hp (thn (hb pins s2 σ1 H2 _ I2 q2) fun f s3 q3 => ?_)
    cases f with
    | next =>
      obtain ⟨σ3, H3, I3, n3⟩ := q3
      obtain ⟨m', hm, w3⟩ := hN σ3 H3 n3
      exact ⟨m', hm, σ3, H3, I3, w3⟩
    | cont =>
      obtain ⟨σ3, H3, I3, n3⟩ := q3
      obtain ⟨m', hm, w3⟩ := hN σ3 H3 n3
      exact ⟨m', hm, σ3, H3, I3, w3⟩
    | brk => exact q3
    | ret v => exact q3
  | false =>
    rw [if_neg Bool.false_ne_true]
    exact wpAny_execs_nil ⟨σ1, H2, I2, q2⟩
end

/-! ### what a loop or a comprehension walks -/
/-- at turn i: it yields x (the heap may grow), or it stops -/
structure It where
  go : Nat → Hp → Prop
  yld : Nat → Hp → V → Hp → Prop
  stop : Nat → Hp → Prop
/-- the iterator's own objects may turn: they are not the frame's, not pinned, younger than the entry (or a comprehension's own) -/
noncomputable def FpOk (X : Cx) (pins : List (Addr × Obj)) (H : Hp) (b : Addr) : Prop :=
  H b = none ∧ b ≠ X.env.locals ∧ b ∉ X.fs ∧ (b ∈ X.ex ∨ X.s₀.heap.objs.size ≤ b) ∧ (∀ x c, X.env.cells.lookup x = some c → c ≠ b) ∧ ∀ p ∈ X.pn ++ pins, p.1 ≠ b
theorem Inv.fpOk {X : Cx} {pins : List (Addr × Obj)} {σ : St} {H H' : Hp} {s : Shared} {b : Addr} (I : Inv X pins σ H s) (hb : s.heap.objs.size ≤ b) (hn : H' b = none) : FpOk X pins H' b := by
  refine ⟨hn, Nat.ne_of_gt (Nat.lt_of_lt_of_le I.lt hb), I.nofs hb, .inr (Nat.le_trans I.sz hb), fun x c e z => ?_, fun p hp z => ?_⟩
  · obtain ⟨v, q⟩ := I.cell x c e
    exact absurd (Nat.lt_of_lt_of_le q.lt (by rw [z]; exact hb)) (Nat.lt_irrefl _)
  · exact absurd (Nat.lt_of_lt_of_le (Heap.lt_size (I.pin p hp).1) (by rw [z]; exact hb)) (Nat.lt_irrefl _)
structure Turn (P : Program) (w : World) (K : PySem.W.Frag) (tg : Expr) (J : It) (fp : List Addr) (it : Addr) (tn : Nat → Heap → Prop) : Prop where
  mem : it ∈ fp
  obj : ∀ i h, tn i h → ∀ b ∈ fp, ∃ o, h.get? b = some o ∧ ∀ v, o.data ≠ .cell v
  keep : ∀ i h h', tn i h → (∀ b ∈ fp, ∀ o, h.get? b = some o → h'.get? b = some o) → tn i h'
  item : ∀ (X : Cx), X.prog = P → X.w = w → X.K = K → X.calm = true → ∀ (i : Nat) (pins : List (Addr × Obj)) (s : Shared) (σ : St) (H : Hp) (E : Value → Shared → Prop), Inv X pins σ H s → (∀ b ∈ fp, FpOk X pins H b) → tn i s.heap → J.go i H →
    wpAny (model P w) X.A (pyNext (.ref it)) (fun r s1 => ∃ u, r = some u ∧
      wpAny (model P w) X.A (letOwnedTupleGo tg (.ref it) u) (fun _ s2 => ∃ x H', Inv X pins σ H' s2 ∧ RelV x u ∧ J.yld i H x H' ∧ tn (i + 1) s2.heap ∧ ∀ b ∈ fp, H' b = none) E s1) E s
  done : ∀ (X : Cx), X.prog = P → X.w = w → X.K = K → X.calm = true → ∀ (i : Nat) (pins : List (Addr × Obj)) (s : Shared) (σ : St) (H : Hp) (E : Value → Shared → Prop), Inv X pins σ H s → (∀ b ∈ fp, FpOk X pins H b) → tn i s.heap → J.stop i H →
    wpAny (model P w) X.A (pyNext (.ref it)) (fun r s1 => r = none ∧ Inv X pins σ H s1) E s
  self : ∀ (A : Around) (i : Nat) (s : Shared) (Q : Value → Shared → Prop) (E : Value → Shared → Prop), tn i s.heap → Q (.ref it) s → wpAny (model P w) A (pyIter (.ref it)) Q E s
noncomputable abbrev TI := St → Hp → (It → Hp → Prop) → Prop
/-- an iterator has come -/
noncomputable def PIE (X : Cx) (pins : List (Addr × Obj)) (σ : St) (tg : Expr) (R : It → Hp → Prop) (itv : Value) (s2 : Shared) : Prop :=
  ∃ (it : Addr) (fp : List Addr) (tn : Nat → Heap → Prop) (J : It) (H' : Hp), itv = .ref it ∧ Inv X pins σ H' s2 ∧ Turn X.prog X.w X.K tg J fp it tn ∧ tn 0 s2.heap ∧ (∀ b ∈ fp, FpOk X pins H' b) ∧ R J H'
noncomputable def PI (X : Cx) (tg iter : Expr) (wi : TI) : Prop :=
  ∀ (pins : List (Addr × Obj)) (s : Shared) (σ : St) (H : Hp) (R : It → Hp → Prop), Inv X pins σ H s → wi σ H R →
    wpAny (model X.prog X.w) X.A (eval iter X.env) (fun v s1 => wpAny (model X.prog X.w) X.A (pyIter v) (PIE X pins σ tg R) X.xe s1) X.xe s

/-- the step ahead of the store is nothing for an iterator that keeps no tuple -/
theorem go_of {M : Model} {A : Around} {E : Value → Shared → Prop} {s : Shared} {tg : Expr} {it : Addr} {u : Value} {o : Obj} {n : String} {vs : Array Value} {Q : Unit → Shared → Prop} (ho : s.heap.get? it = some o) (hc : o.cls = .type n) (hd : o.data = .fields vs)
    (hn : ["enumerate", "zip", "dict_itemiterator", "dict_reverseitemiterator", "odict_iterator", "itertools.zip_longest", "itertools.pairwise"].contains n = false) (hQ : Q () s) : wpAny M A (letOwnedTupleGo tg (.ref it) u) Q E s := by
  unfold letOwnedTupleGo
  cases tg <;> first
    | exact wpAny_pure hQ
    | (cases u <;> first
        | exact wpAny_pure hQ
        | (refine wpAny_bind (wpAny_load ho ?_)
           rw [hc, hd]
           show wpAny M A (if (["enumerate", "zip", "dict_itemiterator", "dict_reverseitemiterator", "odict_iterator", "itertools.zip_longest", "itertools.pairwise"].contains n && vs[0]? == some (rawInt _)) = true then _ else _) Q E s
           rw [if_neg (by intro h; rw [hn, Bool.false_and] at h; cases h)]
           exact wpAny_pure hQ))

/-- the list at a, as it stands at each turn (a loop may append to it) -/
noncomputable def Itl (K : PySem.W.Frag) (a : Addr) : It :=
  ⟨fun i H => ∃ xs x, SqL K H a xs ∧ xs[i]? = some x, fun i H x H' => H' = H ∧ ∀ xs, SqL K H a xs → xs[i]? = some x, fun i H => ∃ xs, SqL K H a xs ∧ xs.length ≤ i⟩
/-- lo, lo + 1, .. (n of them) -/
noncomputable def Itr (lo : Int) (n : Nat) : It := ⟨fun i _ => i < n, fun i H x H' => H' = H ∧ x = .int (lo + i), fun i _ => n ≤ i⟩
theorem turn_list {P : Program} {w : World} {K : PySem.W.Frag} {tg : Expr} (a it : Addr) : Turn P w K tg (Itl K a) [it] it (fun i h => h.IsListIter it a i) where
  mem := by simp
  obj := fun i h st b hb => by
    have e : b = it := by simpa using hb
    subst e
    obtain ⟨o, e, c, d⟩ := st
    exact ⟨o, e, fun v z => by rw [d] at z; cases z⟩
  keep := fun i h h' st k => st.at fun o e => k it (by simp) o e
  item := by
    intro X hP hw hK hc i pins s σ H E I hf st hg
    subst hP hw hK
    obtain ⟨xs, x, hq, hx⟩ := hg
    obtain ⟨its, rv, p, hz⟩ := I.list hq
    obtain ⟨u, hu, ru⟩ := rv.get hx
    obtain ⟨f0, f1, f2, f3, f4, f5⟩ := hf it (by simp)
    refine wpAny_pyNext_list_item st p.isList (x := u) (by simpa using hu) fun h' st' sb => ?_
    have I1 : Inv X pins σ H { s with heap := h' } := I.turned (t' := s.toks) (fun b o hb e => (sb.2 b hb).trans e) f0 f1 f3 f4 f5
    obtain ⟨o, e, c, d⟩ := id st'
    exact ⟨u, rfl, go_of (s := { s with heap := h' }) e c d (by decide) ⟨x, H, I1, ru, ⟨rfl, fun ys hy => by rw [I.list_inj hy hq]; exact hx⟩, st', fun b hb => (hf b hb).1⟩⟩
  done := by
    intro X hP hw hK hc i pins s σ H E I hf st hg
    subst hP hw hK
    obtain ⟨xs, hq, hx⟩ := hg
    obtain ⟨its, rv, p, hz⟩ := I.list hq
    obtain ⟨f0, f1, f2, f3, f4, f5⟩ := hf it (by simp)
    have hl := rv.length
    exact wpAny_pyNext_list_end (I.ok.hd hc) st p.isList (by simp; omega) fun h' eb => ⟨rfl, I.turned (t' := s.toks) (fun b o hb e => eb b o hb e) f0 f1 f3 f4 f5⟩
  self := fun _ _ _ _ _ st h => wpAny_pyIter_listiter st h
theorem turn_range {P : Program} {w : World} {K : PySem.W.Frag} {tg : Expr} (it : Addr) (lo : Int) (n : Nat) : Turn P w K tg (Itr lo n) [it] it (fun i h => IsRangeIter h it (lo + (i : Nat) * 1) ((n : Int) - (i : Nat)) 1) where
  mem := by simp
  obj := fun i h st b hb => by
    have e : b = it := by simpa using hb
    subst e
    exact ⟨_, st, fun v z => by
      have z' : Data.fields _ = Data.cell v := z
      cases z'⟩
  keep := fun i h h' st k => k it (by simp) _ st
  item := by
    intro X hP hw hK hc i pins s σ H E I hf st hg
    subst hP hw hK
    obtain ⟨f0, f1, f2, f3, f4, f5⟩ := hf it (by simp)
    have W := Walks.range (prog := X.prog) (w := X.w) (I.ok.hd hc) it lo 1 n
    refine W.item i s _ _ hg st fun v h' tk hv st' kk => ?_
    obtain ⟨t, rfl⟩ := hv
    have I1 : Inv X pins σ H { s with heap := h', toks := tk } := I.turned (fun b o hb e => kk b o (by simpa using hb) e) f0 f1 f3 f4 f5
    refine ⟨_, rfl, go_of (s := { s with heap := h', toks := tk }) (n := "range_iterator") st' rfl rfl (by decide) ⟨.int (lo + i), H, I1, ⟨t, ?_⟩, ⟨rfl, rfl⟩, st', fun b hb => (hf b hb).1⟩⟩
    rw [Int.mul_one]
  done := by
    intro X hP hw hK hc i pins s σ H E I hf st hg
    subst hP hw hK
    obtain ⟨f0, f1, f2, f3, f4, f5⟩ := hf it (by simp)
    exact wpAny_pyNext_range_end (I.ok.hd hc) st (by have : n ≤ i := hg; omega) fun h' eb => ⟨rfl, I.turned (t' := s.toks) (fun b o hb e => eb b o hb e) f0 f1 f3 f4 f5⟩
  self := fun _ _ _ _ _ st h => wpAny_pyIter_rangeiter st h
end L2

namespace L2
open PySem PySem.Spec PyProof.Rows
section
variable {X : Cx} {tg : Expr}
noncomputable def iList (K : PySem.W.Frag) (tl : TE) : TI := fun σ H R => tl σ H fun x H1 => ∃ a, x = .ref a ∧ (∃ xs, SqL K H1 a xs) ∧ R (Itl K a) H1
theorem pi_list {l : Expr} {tl : TE} (hl : PE X l tl) : PI X tg l (iList X.K tl) := by
  intro pins s σ H R I h
  refine thn (hl pins s σ H _ I h) fun v s1 ⟨x, H1, I1, r1, q1⟩ => ?_
  obtain ⟨a, e, ⟨xs, hq⟩, q⟩ := q1
  subst e
  cases r1
  obtain ⟨its, rv, p, hz⟩ := I1.list hq
  refine wpAny_pyIter_list p.isList ?_
  refine ⟨s1.heap.objs.size, [s1.heap.objs.size], _, _, H1, rfl, I1.kept (t' := s1.toks) fun b o e => Heap.get?_push_of_some _ e, turn_list a _, ⟨_, Heap.get?_push_size _ rfl, rfl, rfl⟩, fun b hb => ?_, q⟩
  have e : b = s1.heap.objs.size := by simpa using hb
  subst e
  exact I1.fpOk (Nat.le_refl _) (I1.hok.fresh (Nat.le_refl _))
/-- a range object just made, walked -/
theorem range_it {pins : List (Addr × Obj)} {σ : St} {H : Hp} {s : Shared} {R : It → Hp → Prop} {E : Value → Shared → Prop} {lo hi : Int} {t u v : Tok} {tk : Nat} (I : Inv X pins σ H s) (h1 : -(2 ^ 62) ≤ lo) (h2 : lo < 2 ^ 62) (h3 : -(2 ^ 62) ≤ hi) (h4 : hi < 2 ^ 62)
    (q : R (Itr lo (hi - lo).toNat) H) : wpAny (model X.prog X.w) X.A (pyIter (.ref s.heap.objs.size)) (PIE X pins σ tg R) E { s with heap := s.heap.push { cls := .type "range", data := .fields #[.int lo t, .int hi u, .int 1 v] }, toks := tk } := by
  refine wpAny_pyIter_range (IsRange.new ..) (small_one h1 h2 h3 h4) ?_
  have I1 : Inv X pins σ H { s with heap := s.heap.push { cls := .type "range", data := .fields #[.int lo t, .int hi u, .int 1 v] }, toks := tk } := I.kept fun b o e => Heap.get?_push_of_some _ e
  refine ⟨(s.heap.push { cls := .type "range", data := .fields #[.int lo t, .int hi u, .int 1 v] }).objs.size, [(s.heap.push { cls := .type "range", data := .fields #[.int lo t, .int hi u, .int 1 v] }).objs.size], _, _, H, rfl,
    I1.kept (t' := tk) fun b o e => Heap.get?_push_of_some _ e, turn_range _ lo (hi - lo).toNat, ?_, fun b hb => ?_, q⟩
  · have e1 : lo + ((0 : Nat) : Int) * 1 = lo := by simp
    have e2 : (((hi - lo).toNat : Nat) : Int) - ((0 : Nat) : Int) = Builtin.Range.rangeSize lo hi 1 := by rw [rangeSize_one]; split <;> omega
    show IsRangeIter _ _ (lo + ((0 : Nat) : Int) * 1) ((((hi - lo).toNat : Nat) : Int) - ((0 : Nat) : Int)) 1
    rw [e1, e2]
    exact Heap.get?_push_size _ rfl
  · have e : b = (s.heap.push { cls := .type "range", data := .fields #[.int lo t, .int hi u, .int 1 v] }).objs.size := by simpa using hb
    subst e
    exact I1.fpOk (Nat.le_refl _) (I1.hok.fresh (Nat.le_refl _))
noncomputable def iRng1 (ta : TA) : TI := fun σ H R => ta σ H fun vs H1 => ∃ j : Int, vs = [.int j] ∧ -(2 ^ 62) ≤ j ∧ j < 2 ^ 62 ∧ R (Itr 0 j.toNat) H1
noncomputable def iRng2 (ta : TA) : TI := fun σ H R => ta σ H fun vs H1 => ∃ i j : Int, vs = [.int i, .int j] ∧ (-(2 ^ 62) ≤ i ∧ i < 2 ^ 62 ∧ -(2 ^ 62) ≤ j ∧ j < 2 ^ 62) ∧ R (Itr i (j - i).toNat) H1
theorem pi_range1 {a : Expr} {ta : TA} {p pos : Pos} (hg : Gl X "range") (hm : X.mg "range" = none) (ha : PA X [a] ta) (hs : starEach [a] X.env = [(false, eval a X.env)] := by rfl) : PI X tg (.Call (.Name "range" p) [a] [] pos) (iRng1 ta) := by
  intro pins s σ H R I h
  refine Call_ (ld_blt I hg hm boot_range (PyProof.Rows.callWith_type1 (thn (ha pos pins s σ H _ I h) fun us s1 ⟨vs, H1, I1, r1, q1⟩ => ?_) hs rfl))
  obtain ⟨j, e, q1, q2, q⟩ := q1
  subst e
  cases r1 with
  | cons r rr =>
    cases rr
    obtain ⟨t, rfl⟩ := r
    exact call_range_1 (range_it I1 (by omega) (by omega) q1 q2 (by simpa using q))
theorem pi_range2 {a b : Expr} {ta : TA} {p pos : Pos} (hg : Gl X "range") (hm : X.mg "range" = none) (ha : PA X [a, b] ta) (hs : starEach [a, b] X.env = [(false, eval a X.env), (false, eval b X.env)] := by rfl) (hs2 : starEach [b] X.env = [(false, eval b X.env)] := by rfl) :
    PI X tg (.Call (.Name "range" p) [a, b] [] pos) (iRng2 ta) := by
  intro pins s σ H R I h
  refine Call_ (ld_blt I hg hm boot_range (PyProof.Rows.callWith_type1 (thn (ha pos pins s σ H _ I h) fun us s1 ⟨vs, H1, I1, r1, q1⟩ => ?_) (by rw [hs, hs2]) (by rw [hs2]; rfl)))
  obtain ⟨i, j, e, ⟨q1, q2, q3, q4⟩, q⟩ := q1
  subst e
  cases r1 with
  | cons r rr =>
    cases rr with
    | cons r' rr =>
      cases rr
      obtain ⟨t, rfl⟩ := r
      obtain ⟨t', rfl⟩ := r'
      exact call_range_2 (range_it I1 q1 q2 q3 q4 q)

/-! ### for -/
/-- W: the invariant by the turn and a measure; N: what the body is to reach -/
noncomputable def tFor (wi : TI) (g : TG) (tb : TS) : TS := fun D σ H => wi σ H fun J H1 => ∃ W : Nat → Nat → St → Hp → Prop, (∃ m, W 0 m σ H1) ∧ ∀ i m σ H, W i m σ H →
  (J.stop i H ∧ D.nx σ H) ∨ (J.go i H ∧ ∃ N : St → Hp → Prop, (∀ σ' H', N σ' H' → ∃ m', m' < m ∧ W (i + 1) m' σ' H') ∧ ∀ x H', J.yld i H x H' → g x σ H' fun σ2 H2 => tb { D with nx := N, ct := N, bk := D.nx } σ2 H2)
/-- the records at fp as they stand -/
noncomputable def pinsAt (fp : List Addr) (h : Heap) : List (Addr × Obj) := fp.filterMap fun b => (h.get? b).map fun o => (b, o)
theorem mem_pinsAt {fp : List Addr} {h : Heap} {b : Addr} {o : Obj} (hb : b ∈ fp) (e : h.get? b = some o) : (b, o) ∈ pinsAt fp h := List.mem_filterMap.mpr ⟨b, hb, by rw [e]; rfl⟩
theorem of_pinsAt {fp : List Addr} {h : Heap} {p : Addr × Obj} (hp : p ∈ pinsAt fp h) : p.1 ∈ fp ∧ h.get? p.1 = some p.2 := by
  obtain ⟨b, hb, e⟩ := List.mem_filterMap.mp hp
  cases q : h.get? b with
  | none => rw [q] at e; cases e
  | some o =>
    rw [q] at e
    have e' : (b, o) = p := Option.some.inj e
    subst e'
    exact ⟨hb, q⟩
theorem Inv.pinned {pins : List (Addr × Obj)} {σ : St} {H : Hp} {s : Shared} {fp : List Addr} (I : Inv X pins σ H s) (hf : ∀ b ∈ fp, FpOk X pins H b) (ho : ∀ b ∈ fp, ∃ o, s.heap.get? b = some o ∧ ∀ v, o.data ≠ .cell v) : Inv X (pins ++ pinsAt fp s.heap) σ H s :=
  I.pins_of fun p hp => (List.mem_append.mp hp).elim (fun z => I.pin p (List.mem_append_right _ z)) fun z => by
    obtain ⟨hb, e⟩ := of_pinsAt z
    obtain ⟨f0, f1, f2, _⟩ := hf p.1 hb
    obtain ⟨o, e', d⟩ := ho p.1 hb
    rw [e] at e'; cases e'
    exact ⟨e, f0, f1, f2, d⟩
theorem Inv.unpinned {pins pl : List (Addr × Obj)} {σ : St} {H : Hp} {s : Shared} (I : Inv X (pins ++ pl) σ H s) : Inv X pins σ H s := I.pins_of fun p hp => I.pin p (List.mem_append_right _ (List.mem_append_left _ hp))
theorem ps_for {iter : Expr} {body : List Stmt} {wi : TI} {g : TG} {tb : TS} {pos : Pos} (hp : PassesOwn (model X.prog X.w) X.A X.env X.xe) (hc : X.calm = true) (hi : PI X tg iter wi) (hg : PG X tg g) (hb : PSs X body tb)
    (hs : ∀ x, foldedSetIterable iter X.env x = pure x := by intro _; rfl) : PS X (.For tg iter body [] pos) (tFor wi g tb) := by
  intro pins s σ H D I h
  refine wpAny_For (thn (hi pins s σ H _ I h) fun v s1 h1 => thn h1 fun itv s2 h2 => ?_) hs
  obtain ⟨it, fp, tn, J, H2, e, I2, T, st2, f2, W, ⟨m0, w0⟩, turn⟩ := h2
  subst e
  -- what stays true of the iterator's objects through the loop
  have stat : ∀ {H' : Hp}, (∀ b ∈ fp, H' b = none) → ∀ b ∈ fp, FpOk X pins H' b := fun hn b hb => ⟨hn b hb, (f2 b hb).2⟩
  refine codeAny_forLoop_any (fun n s' => ∃ i σ' H', Inv X pins σ' H' s' ∧ tn i s'.heap ∧ (∀ b ∈ fp, H' b = none) ∧ W i n σ' H') ?_ m0 ⟨0, σ, H2, I2, st2, fun b hb => (f2 b hb).1, w0⟩
  rintro n s3 ⟨i, σ3, H3, I3, st3, fr3, w3⟩
  rcases turn i n σ3 H3 w3 with ⟨stop, qn⟩ | ⟨go, N, hN, step⟩
  · refine wpAny_passesOwn hp (thn (T.done X rfl rfl rfl hc i pins s3 σ3 H3 X.xe I3 (stat fr3) st3 stop) fun r s4 ⟨hr, I4⟩ => ?_)
    subst hr
    exact wpAny_execs_nil ⟨σ3, H3, I4, qn⟩
  · refine wpAny_passesOwn hp (thn (T.item X rfl rfl rfl hc i pins s3 σ3 H3 X.xe I3 (stat fr3) st3 go) fun r s4 ⟨u, hr, h4⟩ => ?_)
    subst hr
    refine wpAny_passesOwn hp (thn h4 fun _ s5 ⟨x, H5, I5, r5, y5, st5, fr5⟩ => ?_)
    have I5' := I5.pinned (stat fr5) (T.obj _ _ st5)
    refine wpAny_passesOwn hp (thn (hg _ s5 σ3 H5 x u _ I5' r5 (step x H5 y5)) fun _ s6 ⟨σ6, H6, I6, q6⟩ => ?_)
    refine wpAny_passesOwn hp (thn (hb _ s6 σ6 H6 _ I6 q6) fun f s7 q7 => ?_)
    have again : ∀ {σ7 : St} {H7 : Hp}, Inv X (pins ++ pinsAt fp s5.heap) σ7 H7 s7 → N σ7 H7 → ∃ m, m < n ∧ ∃ i σ' H', Inv X pins σ' H' s7 ∧ tn i s7.heap ∧ (∀ b ∈ fp, H' b = none) ∧ W i m σ' H' := fun {σ7 H7} I7 n7 => by
      obtain ⟨m', hm, w7⟩ := hN σ7 H7 n7
      refine ⟨m', hm, i + 1, σ7, H7, I7.unpinned, T.keep _ _ _ st5 fun b hb o e => (I7.pin (b, o) (List.mem_append_right _ (List.mem_append_right _ (mem_pinsAt hb e)))).1, fun b hb => ?_, w7⟩
      obtain ⟨o, e, d⟩ := T.obj _ _ st5 b hb
      exact (I7.pin (b, o) (List.mem_append_right _ (List.mem_append_right _ (mem_pinsAt hb e)))).2.1
    cases f with
    | next => obtain ⟨σ7, H7, I7, n7⟩ := q7; exact again I7 n7
    | cont => obtain ⟨σ7, H7, I7, n7⟩ := q7; exact again I7 n7
    | brk => obtain ⟨σ7, H7, I7, q7⟩ := q7; exact ⟨σ7, H7, I7.unpinned, q7⟩
    | ret v => obtain ⟨x7, σ7, H7, I7, r7, q7⟩ := q7; exact ⟨x7, σ7, H7, I7.unpinned, r7, q7⟩
end

/-! ### the forms one uses -/
/-- over a list that the body leaves as it is -/
theorem for_list {K : PySem.W.Frag} {a : Addr} {xs : List V} {g : TG} {tb : TS} {D : Ends} {σ : St} {H : Hp} (Pv : Nat → St → Hp → Prop) (h0 : Pv 0 σ H) (hl : ∀ i σ H, i ≤ xs.length → Pv i σ H → SqL K H a xs)
    (hs : ∀ i x σ H, xs[i]? = some x → Pv i σ H → g x σ H fun σ2 H2 => tb { D with nx := Pv (i + 1), ct := Pv (i + 1), bk := D.nx } σ2 H2) (hd : ∀ σ H, Pv xs.length σ H → D.nx σ H) :
    ∃ W : Nat → Nat → St → Hp → Prop, (∃ m, W 0 m σ H) ∧ ∀ i m σ H, W i m σ H →
      ((Itl K a).stop i H ∧ D.nx σ H) ∨ ((Itl K a).go i H ∧ ∃ N : St → Hp → Prop, (∀ σ' H', N σ' H' → ∃ m', m' < m ∧ W (i + 1) m' σ' H') ∧ ∀ x H', (Itl K a).yld i H x H' → g x σ H' fun σ2 H2 => tb { D with nx := N, ct := N, bk := D.nx } σ2 H2) := by
  refine ⟨fun i m σ H => m = xs.length - i ∧ i ≤ xs.length ∧ Pv i σ H, ⟨xs.length, by simp, Nat.zero_le _, h0⟩, ?_⟩
  rintro i m σ H ⟨rfl, hi, p⟩
  have q := hl i σ H hi p
  by_cases hlt : i < xs.length
  · refine .inr ⟨⟨xs, xs[i], q, by simp [hlt]⟩, Pv (i + 1), fun σ' H' p' => ⟨xs.length - (i + 1), by omega, rfl, hlt, p'⟩, fun x H' y => ?_⟩
    obtain ⟨e, y⟩ := y
    subst e
    exact hs i x σ _ (y xs q) p
  · have e : i = xs.length := by omega
    subst e
    exact .inl ⟨⟨xs, q, Nat.le_refl _⟩, hd σ H p⟩
theorem for_range {lo : Int} {n : Nat} {g : TG} {tb : TS} {D : Ends} {σ : St} {H : Hp} (Pv : Nat → St → Hp → Prop) (h0 : Pv 0 σ H)
    (hs : ∀ i σ H, i < n → Pv i σ H → g (.int (lo + i)) σ H fun σ2 H2 => tb { D with nx := Pv (i + 1), ct := Pv (i + 1), bk := D.nx } σ2 H2) (hd : ∀ σ H, Pv n σ H → D.nx σ H) :
    ∃ W : Nat → Nat → St → Hp → Prop, (∃ m, W 0 m σ H) ∧ ∀ i m σ H, W i m σ H →
      ((Itr lo n).stop i H ∧ D.nx σ H) ∨ ((Itr lo n).go i H ∧ ∃ N : St → Hp → Prop, (∀ σ' H', N σ' H' → ∃ m', m' < m ∧ W (i + 1) m' σ' H') ∧ ∀ x H', (Itr lo n).yld i H x H' → g x σ H' fun σ2 H2 => tb { D with nx := N, ct := N, bk := D.nx } σ2 H2) := by
  refine ⟨fun i m σ H => m = n - i ∧ i ≤ n ∧ Pv i σ H, ⟨n, by simp, Nat.zero_le _, h0⟩, ?_⟩
  rintro i m σ H ⟨rfl, hi, p⟩
  by_cases hlt : i < n
  · refine .inr ⟨hlt, Pv (i + 1), fun σ' H' p' => ⟨n - (i + 1), by omega, rfl, hlt, p'⟩, fun x H' y => ?_⟩
    obtain ⟨e, y⟩ := y
    subst e y
    exact hs i σ _ hlt p
  · have e : i = n := by omega
    subst e
    exact .inl ⟨Nat.le_refl _, hd σ H p⟩
end L2

namespace L2
open PySem PySem.Spec PyProof.Rows

noncomputable abbrev R2 := V → V → Hp → VK → Prop
/-- a two-place operation on values: f is binaryOp op, inplaceOp op or compareOp op -/
noncomputable def OpR (X : Cx) (f : Value → Value → Sem Value) (r : R2) : Prop :=
  ∀ (pins : List (Addr × Obj)) (s : Shared) (σ : St) (H : Hp) (x y : V) (v u : Value) (Q : VK), Inv X pins σ H s → RelV x v → RelV y u → r x y H Q →
    wpAny (model X.prog X.w) X.A (f v u) (EP X pins σ Q) X.xe s
/-- a one-place operation -/
noncomputable def UnR (X : Cx) (f : Value → Sem Value) (r : V → Hp → VK → Prop) : Prop :=
  ∀ (pins : List (Addr × Obj)) (s : Shared) (σ : St) (H : Hp) (x : V) (v : Value) (Q : VK), Inv X pins σ H s → RelV x v → r x H Q →
    wpAny (model X.prog X.w) X.A (f v) (EP X pins σ Q) X.xe s
/-- a call of a value that is known (a builtin, a type) with values -/
noncomputable def CallR (X : Cx) (f : Value) (r : List V → Hp → VK → Prop) : Prop :=
  ∀ (pins : List (Addr × Obj)) (s : Shared) (σ : St) (H : Hp) (xs : List V) (us : List Value) (Q : VK), Inv X pins σ H s → Vals xs us → r xs H Q →
    wpAny (model X.prog X.w) X.A (call f us) (EP X pins σ Q) X.xe s
noncomputable def tOp (r : R2) (ta tb : TE) : TE := fun σ H Q => ta σ H fun x H1 => tb σ H1 fun y H2 => r x y H2 Q
noncomputable def tUn (r : V → Hp → VK → Prop) (ta : TE) : TE := fun σ H Q => ta σ H fun x H1 => r x H1 Q
/-- ints in, under C, and a value out -/
noncomputable def rI (C : Int → Int → Prop) (g : Int → Int → V) : R2 := fun x y H Q => ∃ i j, x = .int i ∧ y = .int j ∧ C i j ∧ Q (g i j) H
noncomputable def rI0 (g : Int → Int → V) : R2 := fun x y H Q => ∃ i j, x = .int i ∧ y = .int j ∧ Q (g i j) H
noncomputable def rU (g : Int → V) : V → Hp → VK → Prop := fun x H Q => ∃ i, x = .int i ∧ Q (g i) H

section
variable {X : Cx} {a b c : Expr} {ta tb tc : TE} {pos : Pos}

theorem binT (ha : PE X a ta) (hb : PE X b tb) {pins : List (Addr × Obj)} {s : Shared} {σ : St} {H : Hp} {R : V → V → Hp → Prop} (I : Inv X pins σ H s)
    (h : ta σ H fun x H1 => tb σ H1 fun y H2 => R x y H2) {Q : Value → Shared → Prop} {f : Value → Value → Sem Value}
    (hf : ∀ v u s2 x y H2, Inv X pins σ H2 s2 → RelV x v → RelV y u → R x y H2 → wpAny (model X.prog X.w) X.A (f v u) Q X.xe s2) :
    wpAny (model X.prog X.w) X.A (eval a X.env) (fun v s₁ => wpAny (model X.prog X.w) X.A (eval b X.env) (fun u s₂ => wpAny (model X.prog X.w) X.A (f v u) Q X.xe s₂) X.xe s₁) X.xe s := by
  refine thn (ha pins s σ H _ I h) fun v s1 ⟨x, H1, I1, r1, q1⟩ => ?_
  refine thn (hb pins s1 σ H1 _ I1 q1) fun u s2 ⟨y, H2, I2, r2, q2⟩ => ?_
  exact hf v u s2 x y H2 I2 r1 r2 q2

theorem pe_op {op : Operator} {r : R2} (ho : OpR X (binaryOp op) r) (ha : PE X a ta) (hb : PE X b tb) : PE X (.BinOp a op b pos) (tOp r ta tb) := by
  intro pins s σ H Q I h
  exact wpAny_BinOp (binT ha hb I h fun v u s2 x y H2 I2 rx ry q => ho pins s2 σ H2 x y v u Q I2 rx ry q)
theorem pe_un {op : UnaryOp} {r : V → Hp → VK → Prop} (ho : UnR X (unaryOp op) r) (ha : PE X a ta) : PE X (.UnaryOp op a pos) (tUn r ta) := by
  intro pins s σ H Q I h
  exact UnaryOp_ (thn (ha pins s σ H _ I h) fun v s1 ⟨x, H1, I1, r1, q1⟩ => ho pins s1 σ H1 x v Q I1 r1 q1)
/-! ### ints -/
theorem opI {f : Value → Value → Sem Value} {C : Int → Int → Prop} {g : Int → Int → Int}
    (rule : ∀ (i j : Int) (t u : Tok) (s : Shared) (Q : Value → Shared → Prop) (E : Value → Shared → Prop), C i j → Q (.int (g i j) s.toks) { s with toks := s.toks + 1 } → wpAny (model X.prog X.w) X.A (f (.int i t) (.int j u)) Q E s) :
    OpR X f (rI C fun i j => .int (g i j)) := by
  intro pins s σ H x y v u Q I rx ry h
  obtain ⟨i, j, rfl, rfl, hc, q⟩ := h
  obtain ⟨t, rfl⟩ := rx
  obtain ⟨t', rfl⟩ := ry
  exact rule i j t t' s _ _ hc ⟨.int (g i j), H, I.tok _, ⟨_, rfl⟩, q⟩
theorem opI0 {f : Value → Value → Sem Value} {g : Int → Int → Int}
    (rule : ∀ (i j : Int) (t u : Tok) (s : Shared) (Q : Value → Shared → Prop) (E : Value → Shared → Prop), Q (.int (g i j) s.toks) { s with toks := s.toks + 1 } → wpAny (model X.prog X.w) X.A (f (.int i t) (.int j u)) Q E s) :
    OpR X f (rI0 fun i j => .int (g i j)) := by
  intro pins s σ H x y v u Q I rx ry h
  obtain ⟨i, j, rfl, rfl, q⟩ := h
  obtain ⟨t, rfl⟩ := rx
  obtain ⟨t', rfl⟩ := ry
  exact rule i j t t' s _ _ ⟨.int (g i j), H, I.tok _, ⟨_, rfl⟩, q⟩
theorem opB0 {f : Value → Value → Sem Value} {g : Int → Int → Bool}
    (rule : ∀ (i j : Int) (t u : Tok) (s : Shared) (Q : Value → Shared → Prop) (E : Value → Shared → Prop), Q (.bool (g i j)) s → wpAny (model X.prog X.w) X.A (f (.int i t) (.int j u)) Q E s) :
    OpR X f (rI0 fun i j => .bl (g i j)) := by
  intro pins s σ H x y v u Q I rx ry h
  obtain ⟨i, j, rfl, rfl, q⟩ := h
  obtain ⟨t, rfl⟩ := rx
  obtain ⟨t', rfl⟩ := ry
  exact rule i j t t' s _ _ ⟨.bl (g i j), H, I, rfl, q⟩

noncomputable def CPow (i j : Int) : Prop := 0 ≤ j ∧ j ≤ 1000000 ∧ i.natAbs < 2 ^ 64
noncomputable def CMul (i j : Int) : Prop := (-(2 ^ 64) < i ∧ i < 2 ^ 64) ∨ (-(2 ^ 64) < j ∧ j < 2 ^ 64)
theorem CMul.ok {i j : Int} (h : CMul i j) : IntMulOk i j := by
  rcases h with ⟨h1, h2⟩ | ⟨h1, h2⟩
  · exact .of_left (intBits_le_64 h1 h2)
  · exact .of_right (intBits_le_64 h1 h2)
theorem two_pow_nn (k : Nat) : (0 : Int) ≤ 2 ^ k := by
  rw [two_pow_cast]
  exact Int.natCast_nonneg _

theorem op_add : OpR X (binaryOp .Add) (rI0 fun i j => .int (i + j)) := opI0 fun _ _ _ _ _ _ _ q => add_int q
theorem op_sub : OpR X (binaryOp .Sub) (rI0 fun i j => .int (i - j)) := opI0 fun _ _ _ _ _ _ _ q => sub_int q
theorem op_mul : OpR X (binaryOp .Mult) (rI CMul fun i j => .int (i * j)) := opI fun _ _ _ _ _ _ _ hc q => mul_int q hc.ok
/-- % by a positive divisor of any size -/
theorem op_mod : OpR X (binaryOp .Mod) (rI (fun _ j => 0 < j) fun i j => .int (i % j)) := opI fun i j _ _ _ _ _ hc q => by
  have h1 : (0 : Int) < j := hc
  exact mod_int' (by omega) (by rw [Int.fmod_eq_emod_of_nonneg i (by omega)]; exact q)
theorem op_shl : OpR X (binaryOp .LShift) (rI CPow fun i j => .int (i * 2 ^ j.toNat)) := opI fun _ _ _ _ _ _ _ hc q => lshift_int_small hc.1 hc.2.1 hc.2.2 q
theorem op_shr : OpR X (binaryOp .RShift) (rI (fun _ j => 0 ≤ j) fun i j => .int (i / 2 ^ j.toNat)) := opI fun i j _ _ _ _ _ hc q =>
  rshift_int hc (by rw [Int.fdiv_eq_ediv_of_nonneg i (two_pow_nn _)]; exact q)
theorem op_and : OpR X (binaryOp .BitAnd) (rI0 fun i j => .int (Builtin.bitAnd i j)) := opI0 fun _ _ _ _ _ _ _ q => and_int q
theorem op_or : OpR X (binaryOp .BitOr) (rI0 fun i j => .int (Builtin.bitOr i j)) := opI0 fun _ _ _ _ _ _ _ q => or_int q
theorem unI {f : Value → Sem Value} {g : Int → Int}
    (rule : ∀ (i : Int) (t : Tok) (s : Shared) (Q : Value → Shared → Prop) (E : Value → Shared → Prop), Q (.int (g i) s.toks) { s with toks := s.toks + 1 } → wpAny (model X.prog X.w) X.A (f (.int i t)) Q E s) :
    UnR X f (rU fun i => .int (g i)) := by
  intro pins s σ H x v Q I rx h
  obtain ⟨i, rfl, q⟩ := h
  obtain ⟨t, rfl⟩ := rx
  exact rule i t s _ _ ⟨.int (g i), H, I.tok _, ⟨_, rfl⟩, q⟩
theorem un_inv : UnR X (unaryOp .Invert) (rU fun i => .int (Builtin.bitNot i)) := unI fun _ _ _ _ _ q => invert_int q

/-! ### bools among ints: n += (a < b) -/
end

/-! ### comparisons -/
/-- the scalars that == tells apart as data does -/
noncomputable def scal : V → V → Bool
  | .non, .non => true | .non, .int _ => true | .int _, .non => true | .non, .bl _ => true | .bl _, .non => true | .non, .str _ => true | .str _, .non => true
  | .int _, .int _ => true | .bl _, .bl _ => true | .str _, .str _ => true | .byt _, .byt _ => true
  | .int _, .str _ => true | .str _, .int _ => true | .bl _, .str _ => true | .str _, .bl _ => true
  | _, _ => false
noncomputable def rEq : R2 := fun x y H Q => scal x y = true ∧ Q (.bl (decide (x = y))) H
noncomputable def rNe : R2 := fun x y H Q => scal x y = true ∧ Q (.bl (!decide (x = y))) H

theorem dec_int {i j : Int} : decide (V.int i = V.int j) = (i == j) := by
  rw [Bool.eq_iff_iff]
  simp
theorem dec_bl {i j : Bool} : decide (V.bl i = V.bl j) = (i == j) := by
  rw [Bool.eq_iff_iff]
  simp
theorem dec_str {i j : Str} : decide (V.str i = V.str j) = (i == j) := by
  rw [Bool.eq_iff_iff]
  simp
theorem dec_byt {i j : Array UInt8} : decide (V.byt i = V.byt j) = (i.toList == j.toList) := by
  rw [Bool.eq_iff_iff]
  cases i
  cases j
  simp

section
variable {X : Cx} {a b c : Expr} {ta tb tc : TE} {pos : Pos}
theorem fin_bl {pins : List (Addr × Obj)} {σ : St} {H : Hp} {s : Shared} {Q : VK} {k k' : Bool} (I : Inv X pins σ H s) (q : Q (.bl k) H) (e : k = k') : EP X pins σ Q (.bool k') s := by
  subst e
  exact ⟨.bl k, H, I, rfl, q⟩
theorem op_eq : OpR X (compareOp .Eq) rEq := by
  intro pins s σ H x y v u Q I rx ry h
  obtain ⟨hs, q⟩ := h
  cases x with
  | non =>
    cases rx
    cases y with
    | non => cases ry; exact PySem.EqNone.eq_none_none (fin_bl I q (by simp))
    | bl j => cases ry; exact PySem.EqNone.eq_none_bool (fin_bl I q (by simp))
    | int j => obtain ⟨t', rfl⟩ := ry; exact PySem.EqNone.eq_none_int (fin_bl I q (by simp))
    | str j => obtain ⟨t', rfl⟩ := ry; exact PySem.EqNone.eq_none_str (fin_bl I q (by simp))
    | _ => exact absurd (show false = true from hs) Bool.false_ne_true
  | bl i =>
    cases rx
    cases y with
    | non => cases ry; exact PySem.EqNone.eq_bool_none (fin_bl I q (by simp))
    | bl j => cases ry; exact eq_bool (fin_bl I q dec_bl)
    | str j => obtain ⟨t', rfl⟩ := ry; exact PySem.EqMixed.eq_bool_str (fin_bl I q (by simp))
    | _ => exact absurd (show false = true from hs) Bool.false_ne_true
  | int i =>
    obtain ⟨t, rfl⟩ := rx
    cases y with
    | non => cases ry; exact PySem.EqNone.eq_int_none (fin_bl I q (by simp))
    | int j => obtain ⟨t', rfl⟩ := ry; exact eq_int (fin_bl I q dec_int)
    | str j => obtain ⟨t', rfl⟩ := ry; exact PySem.EqMixed.eq_int_str (fin_bl I q (by simp))
    | _ => exact absurd (show false = true from hs) Bool.false_ne_true
  | str i =>
    obtain ⟨t, rfl⟩ := rx
    cases y with
    | non => cases ry; exact PySem.EqNone.eq_str_none (fin_bl I q (by simp))
    | bl j => cases ry; exact PySem.EqMixed.eq_str_bool (fin_bl I q (by simp))
    | int j => obtain ⟨t', rfl⟩ := ry; exact PySem.EqMixed.eq_str_int (fin_bl I q (by simp))
    | str j => obtain ⟨t', rfl⟩ := ry; exact eq_str (fin_bl I q dec_str)
    | _ => exact absurd (show false = true from hs) Bool.false_ne_true
  | byt i =>
    obtain ⟨t, rfl⟩ := rx
    cases y with
    | byt j => obtain ⟨t', rfl⟩ := ry; exact PySem.W.eq_bytes (fin_bl I q dec_byt)
    | _ => exact absurd (show false = true from hs) Bool.false_ne_true
  | _ => cases y <;> exact absurd (show false = true from hs) Bool.false_ne_true
theorem op_ne : OpR X (compareOp .NotEq) rNe := by
  intro pins s σ H x y v u Q I rx ry h
  obtain ⟨hs, q⟩ := h
  cases x with
  | non =>
    cases rx
    cases y with
    | non => cases ry; exact PySem.EqNone.ne_none_none (fin_bl I q (by simp))
    | bl j => cases ry; exact PySem.EqNone.ne_none_bool (fin_bl I q (by simp))
    | int j => obtain ⟨t', rfl⟩ := ry; exact PySem.EqNone.ne_none_int (fin_bl I q (by simp))
    | str j => obtain ⟨t', rfl⟩ := ry; exact PySem.EqNone.ne_none_str (fin_bl I q (by simp))
    | _ => exact absurd (show false = true from hs) Bool.false_ne_true
  | bl i =>
    cases rx
    cases y with
    | non => cases ry; exact PySem.EqNone.ne_bool_none (fin_bl I q (by simp))
    | bl j => cases ry; exact ne_bool (fin_bl I q (congrArg not dec_bl))
    | str j => obtain ⟨t', rfl⟩ := ry; exact PySem.EqMixed.ne_bool_str (fin_bl I q (by simp))
    | _ => exact absurd (show false = true from hs) Bool.false_ne_true
  | int i =>
    obtain ⟨t, rfl⟩ := rx
    cases y with
    | non => cases ry; exact PySem.EqNone.ne_int_none (fin_bl I q (by simp))
    | int j => obtain ⟨t', rfl⟩ := ry; exact ne_int (fin_bl I q (congrArg not dec_int))
    | str j => obtain ⟨t', rfl⟩ := ry; exact PySem.EqMixed.ne_int_str (fin_bl I q (by simp))
    | _ => exact absurd (show false = true from hs) Bool.false_ne_true
  | str i =>
    obtain ⟨t, rfl⟩ := rx
    cases y with
    | non => cases ry; exact PySem.EqNone.ne_str_none (fin_bl I q (by simp))
    | bl j => cases ry; exact PySem.EqMixed.ne_str_bool (fin_bl I q (by simp))
    | int j => obtain ⟨t', rfl⟩ := ry; exact PySem.EqMixed.ne_str_int (fin_bl I q (by simp))
    | str j => obtain ⟨t', rfl⟩ := ry; exact ne_str (fin_bl I q (congrArg not dec_str))
    | _ => exact absurd (show false = true from hs) Bool.false_ne_true
  | byt i =>
    obtain ⟨t, rfl⟩ := rx
    cases y with
    | byt j => obtain ⟨t', rfl⟩ := ry; exact PySem.W.ne_bytes (fin_bl I q (congrArg not dec_byt))
    | _ => exact absurd (show false = true from hs) Bool.false_ne_true
  | _ => cases y <;> exact absurd (show false = true from hs) Bool.false_ne_true

theorem op_lt : OpR X (compareOp .Lt) (rI0 fun i j => .bl (decide (i < j))) := opB0 fun _ _ _ _ _ _ _ q => lt_int q
theorem op_gt : OpR X (compareOp .Gt) (rI0 fun i j => .bl (decide (j < i))) := opB0 fun _ _ _ _ _ _ _ q => gt_int q
/-- is None, is not None: the right side a value none -/
theorem op_isN : OpR X (compareOp .Is) (fun x y H Q => y = .non ∧ Q (.bl (decide (x = .non))) H) := by
  intro pins s σ H x y v u Q I rx ry h
  obtain ⟨rfl, q⟩ := h
  cases ry
  refine is_none_gen (fin_bl I q ?_)
  cases x <;> first
    | (cases rx; rfl)
    | (obtain ⟨t, rfl⟩ := rx; rfl)
theorem op_notN : OpR X (compareOp .IsNot) (fun x y H Q => y = .non ∧ Q (.bl (!decide (x = .non))) H) := by
  intro pins s σ H x y v u Q I rx ry h
  obtain ⟨rfl, q⟩ := h
  cases ry
  refine isnot_none_gen (fin_bl I q ?_)
  cases x <;> first
    | (cases rx; rfl)
    | (obtain ⟨t, rfl⟩ := rx; rfl)

theorem nomark (b : Expr) {op : CmpOp} (h : op ≠ .In := by decide) (h2 : op ≠ .NotIn := by decide) : behindInMarks op b = false := by
  have e1 : (op == CmpOp.In) = false := by cases op <;> first | rfl | exact absurd rfl h
  have e2 : (op == CmpOp.NotIn) = false := by cases op <;> first | rfl | exact absurd rfl h2
  cases b <;> simp [behindInMarks, e1, e2]
/-- a comparison as a value; hm: nomark b, or (for in, not in) by with_unfolding_all rfl -/
theorem pe_cmpR {op : CmpOp} {r : R2} (ho : OpR X (compareOp op) r) (ha : PE X a ta) (hb : PE X b tb) (hm : behindInMarks op b = false) : PE X (.Compare a [op] [b] pos) (tOp r ta tb) := by
  intro pins s σ H Q I h
  exact wpAny_Compare1 (binT ha hb I h fun v u s2 x y H2 I2 rx ry q => ho pins s2 σ H2 x y v u Q I2 rx ry q) hm
/-- a reading of a value as a test -/
noncomputable def tTest (t : TE) : TT := fun σ H Q => t σ H fun x H' => ∃ k, x = .bl k ∧ Q k H'
theorem pt_cmpR {op : CmpOp} {r : R2} (ho : OpR X (compareOp op) r) (ha : PE X a ta) (hb : PE X b tb) (hm : behindInMarks op b = false) : PT X (.Compare a [op] [b] pos) (tTest (tOp r ta tb)) := by
  intro pins s σ H Q I h
  refine wpAny_isTrue_Compare1 (thn (ha pins s σ H _ I h) fun v s1 ⟨x, H1, I1, r1, q1⟩ => thn (hb pins s1 σ H1 _ I1 q1) fun u s2 ⟨y, H2, I2, r2, q2⟩ =>
    thn (ho pins s2 σ H2 x y v u _ I2 r1 r2 q2) fun c s3 ⟨z, H3, I3, r3, k, e, q3⟩ => ?_) hm
  subst e
  cases r3
  exact wpAny_truthy_bool ⟨H3, I3, q3⟩
/-! ### truth -/
theorem line63 : (sizeLine : Nat) < 2 ^ 63 := by rw [sizeLine_eq]; decide
/-! ### strs and bytes -/
/-! ### scalar builtins, by CallR -/
theorem vals1 {x : V} {us : List Value} (r : Vals [x] us) : ∃ u, us = [u] ∧ RelV x u := by
  cases r with
  | cons r1 r2 => cases r2; exact ⟨_, rfl, r1⟩
theorem vals2 {x y : V} {us : List Value} (r : Vals [x, y] us) : ∃ u w', us = [u, w'] ∧ RelV x u ∧ RelV y w' := by
  cases r with
  | cons r1 r2 =>
    cases r2 with
    | cons r3 r4 => cases r4; exact ⟨_, _, rfl, r1, r3⟩
theorem call_max2 (hc : X.calm = true) : CallR X (.builtin "max") (fun xs H Q => ∃ i j, xs = [.int i, .int j] ∧ Q (.int (if j > i then j else i)) H) := by
  intro pins s σ H xs us Q I r h
  obtain ⟨i, j, rfl, q⟩ := h
  obtain ⟨u, w', rfl, ⟨t, rfl⟩, ⟨t', rfl⟩⟩ := vals2 r
  refine max_two_ints (I.ok.hd hc) fun h' tk k => ⟨_, H, I.kept k, ?_, q⟩
  by_cases hj : j > i
  · rw [if_pos hj, if_pos hj]; exact ⟨_, rfl⟩
  · rw [if_neg hj, if_neg hj]; exact ⟨_, rfl⟩
theorem call_min2 (hc : X.calm = true) : CallR X (.builtin "min") (fun xs H Q => ∃ i j, xs = [.int i, .int j] ∧ Q (.int (if j < i then j else i)) H) := by
  intro pins s σ H xs us Q I r h
  obtain ⟨i, j, rfl, q⟩ := h
  obtain ⟨u, w', rfl, ⟨t, rfl⟩, ⟨t', rfl⟩⟩ := vals2 r
  refine min_two_ints (I.ok.hd hc) fun h' tk k => ⟨_, H, I.kept k, ?_, q⟩
  by_cases hj : j < i
  · rw [if_pos hj, if_pos hj]; exact ⟨_, rfl⟩
  · rw [if_neg hj, if_neg hj]; exact ⟨_, rfl⟩
end
end L2

namespace L2
open PySem PySem.Spec PyProof.Rows

/-! ### an instance, its attributes a map -/
section
variable {prog : Program} {w : World} {A : Around} {E : Value → Shared → Prop} {s : Shared} {K : PySem.W.Frag} {x dx C f : Addr} {mA : Str → Option Value} {name : Str} {v : Value}

end

/-! ### the attributes as a list of pairs -/
section
variable {P : Program} {w : World} {H H' : Hp} {h h' : Heap} {a C dx : Addr} {fs fs' : List (Str × V)}
end

/-! ### what of the text a class must have -/
section
variable {X : Cx} {pins : List (Addr × Obj)} {σ : St} {H : Hp} {s : Shared} {a C dx : Addr} {fs : List (Str × V)} {f : Str} {v : V} {A : Around} {E : Value → Shared → Prop}

end

/-! ### readings and rules -/
section
variable {X : Cx} {o e value : Expr} {f : Str} {pos pos' tpos : Pos} {ta tv : TE}
end

/-! ### isinstance -/
section
variable {X : Cx} {pins : List (Addr × Obj)} {σ : St} {H : Hp} {s : Shared} {A : Around} {E : Value → Shared → Prop} {Q : Value → Shared → Prop} {c : Value} {b : Bool}
end
end L2

namespace L2
open PySem PySem.Spec PyProof.Rows

/-! ### room -/
structure Room (k : Nat) (A : Around) : Prop where
  hd : A.handled = none
  dp : A.depth + 3 * k + 5 < recursionLimit
  un : A.units + 16 * k + 200 < cLine
theorem Room.mono {j k : Nat} {A : Around} (r : Room k A) (h : j ≤ k) : Room j A := ⟨r.hd, by have := r.dp; omega, by have := r.un; omega⟩
theorem Room.deeper {k : Nat} {A : Around} (r : Room (k + 1) A) (env : Env) : Room k (A.deeper env) :=
  ⟨r.hd, by have := r.dp; show A.depth + 1 + 3 * k + 5 < _; omega, by have := r.un; show A.units + 3 + 16 * k + 200 < _; omega⟩
theorem Room.depth {k : Nat} {A : Around} (r : Room k A) : A.depth < recursionLimit := by have := r.dp; omega
theorem Room.units {k : Nat} {A : Around} (r : Room k A) : A.units + 64 < cLine := by have := r.un; omega
theorem Room.units0 {k : Nat} {A : Around} (r : Room k A) : A.units < cLine := by have := r.un; omega

/-! ### argument lists and displays -/
noncomputable def tNil : TA := fun _ H Q => Q [] H
noncomputable def tCons (ta : TE) (tr : TA) : TA := fun σ H Q => ta σ H fun x H1 => tr σ H1 fun xs H2 => Q (x :: xs) H2
section
variable {X : Cx} {e : Expr} {es : List Expr} {te : TE} {t : TA} {pos : Pos}
theorem pa_nil : PA X [] tNil := fun _ _ _ _ H Q I h => Calls.spliced_nil ⟨[], H, I, .nil, h⟩
theorem pa_cons (ha : PE X e te) (hr : PA X es t) (hs : starEach (e :: es) X.env = (false, eval e X.env) :: starEach es X.env := by rfl) : PA X (e :: es) (tCons te t) := by
  intro pos pins s σ H Q I h
  rw [hs]
  show wpAny _ _ (spliced ((false, eval e X.env) :: backTo pos (starEach es X.env))) _ _ s
  refine Calls.spliced_cons (thn (ha pins s σ H _ I h) fun u s1 ⟨x, H1, I1, r1, q1⟩ => ?_)
  exact thn (hr pos pins s1 σ H1 _ I1 q1) fun us s2 ⟨xs, H2, I2, r2, q2⟩ => ⟨x :: xs, H2, I2, .cons r1 r2, q2⟩

/-- a tuple, a list of written items -/
noncomputable def tTup (t : TA) : TE := fun σ H Q => t σ H fun xs H1 => xs.length ≤ sizeLine ∧ ∀ p, H1 p = none → Q (.ref p) (upd H1 p (.tup xs))
noncomputable def tLst (t : TA) : TE := fun σ H Q => t σ H fun xs H1 => xs.length ≤ sizeLine ∧ ∀ p, H1 p = none → Q (.ref p) (upd H1 p (.lst xs))
theorem pe_tup {x1} (h : PA X es t) : PE X (.Tuple es x1 pos) (tTup t) := by
  intro pins s σ H Q I hq
  refine wpAny_Tuple_spliced (thn (h pos pins s σ H _ I hq) fun us s1 ⟨xs, H1, I1, r, z, q⟩ => ⟨by rw [← r.length]; exact z, ?_⟩)
  have hf : H1 s1.heap.objs.size = none := I1.hok.fresh (Nat.le_refl _)
  refine ⟨.ref s1.heap.objs.size, upd H1 s1.heap.objs.size (.tup xs), I1.laid (t' := s1.toks) (fun b u e => Heap.get?_push_of_some _ e) (Nat.le_refl _) ?_, rfl, q _ hf⟩
  exact ⟨z, us, r, ⟨_, Heap.get?_push_size _ rfl, rfl, _, rfl⟩⟩
theorem pe_lst (h : PA X es t) : PE X (.List es pos) (tLst t) := by
  intro pins s σ H Q I hq
  refine wpAny_List_spliced (thn (h pos pins s σ H _ I hq) fun us s1 ⟨xs, H1, I1, r, z, q⟩ => ⟨by rw [← r.length]; exact z, ?_⟩)
  have hf : H1 s1.heap.objs.size = none := I1.hok.fresh (Nat.le_refl _)
  refine ⟨.ref s1.heap.objs.size, upd H1 s1.heap.objs.size (.lst xs), I1.laid (t' := s1.toks) (fun b u e => Heap.get?_push_of_some _ e) (Nat.le_refl _) ?_, rfl, q _ hf⟩
  exact ⟨z, us, 0, r, Heap.get?_push_size _ rfl⟩
end

/-! ### what a def promises -/
/-- a def's promise: the bound arguments in the parameters' order, the heap, the wanted end, the wanted exception -/
noncomputable abbrev Sp := List V → Hp → VK → XK → Prop
/-- how an exception lies behind a call (file 08 gives it): the callers' frames, abstract heap and state ahead of the call, the wish, the exception, the state -/
noncomputable abbrev CXT := List Env → Hp → Shared → XK → Value → Shared → Prop

/-- the state at a call -/
structure Env0 (P : Program) (w : World) (K : PySem.W.Frag) (mg : Str → Option Value) (base : Heap) (A : Around) (outer : List Env) (s : Shared) (H : Hp) : Prop where
  frames : A.frames = some outer
  mod : Mod K mg base
  bs : ∀ b o, base.get? b = some o → s.heap.get? b = some o ∧ H b = none
  bsz : base.objs.size ≤ s.heap.objs.size
  funs : s.heap.FunFrames base outer
  frf : ∀ b ∈ frs outer, H b = none
  hok : HOk P w H s.heap
  bare : AllBare s.gens
/-- a call's end -/
noncomputable def CE (outer : List Env) (P : Program) (w : World) (H : Hp) (s : Shared) (Q : VK) (u : Value) (s' : Shared) : Prop :=
  ∃ v H', s'.os = s.os ∧ AllBare s'.gens ∧ Un (frs outer) [] H H' s.heap s'.heap ∧ HOk P w H' s'.heap ∧ RelV v u ∧ Q v H'
noncomputable def CR (CX : CXT) (outer : List Env) (P : Program) (w : World) (H : Hp) (s : Shared) (Q : VK) (E : XK) (r : Result) (s' : Shared) : Prop :=
  match r with
  | .ok (.ret u) => CE outer P w H s Q u s'
  | .ok _ => False
  | .error e => CX outer H s E e s'
structure FnOk (P : Program) (w : World) (K : PySem.W.Frag) (mg : Str → Option Value) (base : Heap) (CX : CXT) (k : Nat) (f : Addr) (fd : FuncData) (ps : List Str) (sp : Sp) : Prop where
  len : ∀ vs H Q E, sp vs H Q E → vs.length = ps.length
  run : ∀ (A : Around) (outer : List Env) (s : Shared) (H : Hp) (args : Args) (us : List Value) (vs : List V) (Q : VK) (E : XK), Room k A → Env0 P w K mg base A outer s H → BindsTo s fd args (ps.zip us) → Vals vs us → sp vs H Q E →
    codeAny (model P w) A (.call (.ref f) args) (CR CX outer P w H s Q E) s
section
variable {X : Cx} {pins : List (Addr × Obj)} {σ : St} {H : Hp} {s s' : Shared}
/-- from a body: what a callee wants -/
theorem Inv.env0 (I : Inv X pins σ H s) : Env0 X.prog X.w X.K X.mg X.base X.A X.stack s H :=
  ⟨I.ok.frames, I.ok.mod, I.bs, Nat.le_trans I.ok.bsz I.sz, I.stack, I.stkFree, I.hok, I.bare⟩
/-- behind a call -/
theorem Inv.after {Q : VK} {u : Value} (I : Inv X pins σ H s) (h : CE X.stack X.prog X.w H s Q u s') : EP X pins σ Q u s' := by
  obtain ⟨v, H', os, bare, un, hok, r, q⟩ := h
  obtain ⟨hh, g, d, t, os'⟩ := s'
  obtain rfl : os' = s.os := os
  exact ⟨v, H', I.call (h' := hh) (g' := g) (d' := d) (t' := t) (ch := []) un hok bare (fun b z => absurd z (by simp)), r, q⟩
end

/-! ### calls -/
/-- f(..): the written arguments, then the defaults dvs; E: what is wanted of an exception -/
noncomputable def tCall (sp : Sp) (dvs : List V) (E : XK) (t : TA) : TE := fun σ H Q => t σ H fun vs H1 => sp (vs ++ dvs) H1 Q E
/-- how the parameters are bound: us the positional arguments, kw the keywords' values by name, ds the defaults that fill up -/
noncomputable def Binds (K : PySem.W.Frag) (fd : FuncData) (ps : List Str) (ds : List Value) : Prop :=
  ∀ (s : Shared) (us : List Value), K.In s.heap → (us ++ ds).length = ps.length → BindsTo s fd ⟨us, []⟩ (ps.zip (us ++ ds))
/-- every parameter is given -/
theorem Binds.all {K : PySem.W.Frag} {fd : FuncData} {ps : List Str} (h : ∀ us : List Value, us.length = ps.length → bindArgs fd ⟨us, []⟩ = pure (ps.zip us)) : Binds K fd ps [] := fun s us _ hl => by
  rw [List.append_nil] at hl ⊢
  exact .of_eq (h us hl)

/-- an exception of a callee reaches what this body wants of exceptions -/
noncomputable def Passes (CX : CXT) (X : Cx) (E : XK) : Prop := ∀ (pins : List (Addr × Obj)) (σ : St) (H : Hp) (s : Shared) (e : Value) (s' : Shared), Inv X pins σ H s → CX X.stack H s E e s' → X.xe e s'

section
variable {X : Cx} {CX : CXT} {k : Nat} {f C : Addr} {fd : FuncData} {ps : List Str} {sp : Sp} {dvs : List V} {ds : List Value} {E : XK} {x m : Str} {p pos apos : Pos} {e o : Expr} {es : List Expr} {ta : TE} {t : TA}

/-- the callee runs -/
theorem run_fn {pins : List (Addr × Obj)} {σ : St} {H : Hp} {s : Shared} {Q : VK} {us : List Value} {vs : List V} (F : FnOk X.prog X.w X.K X.mg X.base CX k f fd ps sp) (hr : Room k X.A) (hb : Binds X.K fd ps ds) (hd : Vals dvs ds) (hx : Passes CX X E)
    (I : Inv X pins σ H s) (r : Vals vs us) (h : sp (vs ++ dvs) H Q E) : wpAny (model X.prog X.w) X.A (call (.ref f) us) (EP X pins σ Q) X.xe s := by
  have r2 : Vals (vs ++ dvs) (us ++ ds) := r.append hd
  have hl : (us ++ ds).length = ps.length := by rw [← r2.length]; exact F.len _ _ _ _ h
  refine wpAny_call (codeAny_mono (F.run X.A X.stack s H ⟨us, []⟩ (us ++ ds) (vs ++ dvs) Q E hr I.env0 (hb s us I.kIn hl) r2 h) fun r s' hq => ?_)
  cases r with
  | error e => exact hx pins σ H s e s' I hq
  | ok fl =>
    cases fl with
    | ret u => exact I.after hq
    | next => exact False.elim hq
    | brk => exact False.elim hq
    | cont => exact False.elim hq

theorem pe_call (F : FnOk X.prog X.w X.K X.mg X.base CX k f fd ps sp) (hr : Room k X.A) (hg : Gl X x) (hm : X.mg x = some (.ref f)) (hk : PySem.W.keepIn X.K (.ref f) = true) (hb : Binds X.K fd ps ds) (hd : Vals dvs ds) (hx : Passes CX X E)
    (ha : PA X (e :: es) t) (hdb : (x == ("__debug__" : Str)) = false := by decide) (he : starEach (e :: es) X.env = (false, eval e X.env) :: starEach es X.env := by rfl) (hpl : (backTo pos (starEach es X.env)).any (·.1) = false := by rfl) :
    PE X (.Call (.Name x p) (e :: es) [] pos) (tCall sp dvs E t) := by
  intro pins s σ H Q I h
  refine wpAny_Call_Name_kw (ld_glob I hg hm ?_ hdb)
  refine PySem.W.callWith_K (h₀ := X.base) I.ok.mod.kin hk (thn (ha pos pins s σ H _ I h) fun us s1 ⟨vs, H1, I1, r, q⟩ => ⟨I1.kIn, ?_⟩) he hpl
  exact run_fn F hr hb hd hx I1 r q
end

/-! ### keywords -/
/-- the values of the keywords, from the left -/
noncomputable def PK (X : Cx) (kws : List Keyword) (t : TA) : Prop :=
  ∀ (pos : Pos) (pins : List (Addr × Obj)) (s : Shared) (σ : St) (H : Hp) (Q : List V → Hp → Prop), Inv X pins σ H s → t σ H Q → wpAny (model X.prog X.w) X.A (evalAll ((backToKw pos (keywordEach kws X.env)).map (·.2))) (AP X pins σ Q) X.xe s
section
variable {X : Cx} {CX : CXT} {k : Nat} {f C : Addr} {fd : FuncData} {ps ks : List Str} {sp : Sp} {E : XK} {x m : Str} {p pos apos kpos : Pos} {e o : Expr} {es : List Expr} {kws : List Keyword} {te ta : TE} {t tk : TA} {nm : Option Str}
theorem pk_nil : PK X [] tNil := fun _ _ _ _ H Q I h => wpAny_evalAll_nil ⟨[], H, I, .nil, h⟩
theorem pk_cons (ha : PE X e te) (hr : PK X kws t) : PK X (⟨nm, e, kpos⟩ :: kws) (tCons te t) := by
  intro pos pins s σ H Q I h
  show wpAny _ _ (evalAll ((do let v ← eval e X.env; standAt pos; pure v) :: (backToKw pos (keywordEach kws X.env)).map (·.2))) _ _ s
  refine wpAny_evalAll_cons (wpAny_bind (thn (ha pins s σ H _ I h) fun u s1 ⟨x, H1, I1, r1, q1⟩ => wpAny_bind (wpAny_standAt (wpAny_pure ?_))))
  exact thn (hr pos pins s1 σ H1 _ I1 q1) fun us s2 ⟨xs, H2, I2, r2, q2⟩ => ⟨x :: xs, H2, I2, .cons r1 r2, q2⟩

variable {g : List Value → List Value → List Value} {gV : List V → List V → List V}
end

/-! ### a def's body keeps its promise -/
/-- names: the parameters first -/
structure FnScope (N P : List Str) (sc : Scope) : Prop where
  kind : sc.kind = .function
  co : sc.isCoroutine = false
  gen : sc.isGenerator = false
  nd : N.Nodup
  pre : N.take P.length = P
  par : ∀ x ∈ P, sc.names.lookup x = some .local ∨ sc.names.lookup x = some .cell
  nofree : ∀ y ∈ sc.names, y.2 ≠ .free

theorem bindL_out {kindOf : Str → Option NameKind} {x : Str} : ∀ {binds : List (Str × Value)} {m : Str → Option Value}, (∀ v, (x, v) ∉ binds) → bindL kindOf binds m x = m x
  | [], _, _ => rfl
  | (n, v) :: r, m, h => by
    unfold bindL
    rw [bindL_out fun w hw => h w (List.mem_cons_of_mem _ hw)]
    split
    · have : x ≠ n := by rintro rfl; exact h v List.mem_cons_self
      simp [this]
    · rfl
theorem bindC_out {kindOf : Str → Option NameKind} {x : Str} : ∀ {binds : List (Str × Value)} {m : Str → Option Value}, (∀ v, (x, v) ∉ binds) → bindC kindOf binds m x = m x
  | [], _, _ => rfl
  | (n, v) :: r, m, h => by
    unfold bindC
    rw [bindC_out fun w hw => h w (List.mem_cons_of_mem _ hw)]
    split
    · rfl
    · have : x ≠ n := by rintro rfl; exact h v List.mem_cons_self
      simp [this]
theorem bindL_get {kindOf : Str → Option NameKind} {x : Str} {v : Value} : ∀ {P : List Str} {vs : List Value} {i : Nat} {m : Str → Option Value}, P.Nodup → P[i]? = some x → vs[i]? = some v → kindOf x = some .local →
    bindL kindOf (P.zip vs) m x = some v
  | [], _, _, _, _, h, _, _ => by simp at h
  | _ :: _, [], _, _, _, _, h, _ => by simp at h
  | p :: P, w :: vs, 0, m, nd, h1, h2, hk => by
    simp at h1 h2; subst h1; subst h2
    show bindL kindOf ((p, w) :: P.zip vs) m p = _
    unfold bindL
    rw [bindL_out fun v hv => (List.nodup_cons.mp nd).1 (List.of_mem_zip hv).1, if_pos hk]
    simp
  | p :: P, w :: vs, i + 1, m, nd, h1, h2, hk => by
    show bindL kindOf ((p, w) :: P.zip vs) m x = _
    unfold bindL
    exact bindL_get (i := i) (List.nodup_cons.mp nd).2 (by simpa using h1) (by simpa using h2) hk
theorem bindC_get {kindOf : Str → Option NameKind} {x : Str} {v : Value} : ∀ {P : List Str} {vs : List Value} {i : Nat} {m : Str → Option Value}, P.Nodup → P[i]? = some x → vs[i]? = some v → kindOf x ≠ some .local →
    bindC kindOf (P.zip vs) m x = some v
  | [], _, _, _, _, h, _, _ => by simp at h
  | _ :: _, [], _, _, _, _, h, _ => by simp at h
  | p :: P, w :: vs, 0, m, nd, h1, h2, hk => by
    simp at h1 h2; subst h1; subst h2
    show bindC kindOf ((p, w) :: P.zip vs) m p = _
    unfold bindC
    rw [bindC_out fun v hv => (List.nodup_cons.mp nd).1 (List.of_mem_zip hv).1, if_neg hk]
    simp
  | p :: P, w :: vs, i + 1, m, nd, h1, h2, hk => by
    show bindC kindOf ((p, w) :: P.zip vs) m x = _
    unfold bindC
    exact bindC_get (i := i) (List.nodup_cons.mp nd).2 (by simpa using h1) (by simpa using h2) hk

/-- the names' values at the entry -/
noncomputable def start (N : List Str) (vs : List V) : St := vs.map some ++ List.replicate (N.length - vs.length) none

/-- the context of a def's body, at its entry; an exception leaves the frame, then lies as CX says -/
noncomputable def cxOf (CX : CXT) (P : Program) (w : World) (K : PySem.W.Frag) (mg : Str → Option Value) (base : Heap) (N : List Str) (qual : Str) (scope : Scope) (f : Addr) (cd : Value) (A : Around) (outer : List Env) (s : Shared) (H : Hp) (E : XK) : Cx where
  prog := P
  w := w
  K := K
  mg := mg
  base := base
  A := A.deeper (envOfC qual scope s.heap.objs.size f cd)
  N := N
  s₀ := s
  H₀ := H
  env := envOfC qual scope s.heap.objs.size f cd
  outer := outer
  stack := envOfC qual scope s.heap.objs.size f cd :: outer
  ex := []
  calm := true
  fn := fun _ => true
  pn := []
  xe := fun e s' => wpAny (model P w) (A.deeper (envOfC qual scope s.heap.objs.size f cd)) (leaving (envOfC qual scope s.heap.objs.size f cd) e) (fun _ s'' => CX outer H s E e s'') (fun e' s'' => CX outer H s E e' s'') s'

theorem cell_has {sc : Scope} {n : Nat} {x : Str} (h : sc.names.lookup x = some .cell) : ∃ c, (cellsFrom n sc.names []).lookup x = some c := by
  have q := PySem.W.cellsFrom_some sc.names n [] (.inl h)
  exact Option.isSome_iff_exists.mp q

theorem inv_start {CX : CXT} {P : Program} {w : World} {K : PySem.W.Frag} {mg : Str → Option Value} {base : Heap} {N ps : List Str} {qual : Str} {scope : Scope} {f : Addr} {cd : Value} {A : Around} {outer : List Env} {s s1 : Shared} {H : Hp} {E : XK} {us : List Value} {vs : List V}
    (S : FnScope N ps scope) (hd : A.handled = none) (e0 : Env0 P w K mg base A outer s H) (hl : vs.length = ps.length) (r : Vals vs us)
    (x : InCallC s s.heap.objs.size (bindL (envOfC qual scope s.heap.objs.size f cd).kindOf (ps.zip us) fun _ => none) (cellsFrom (s.heap.objs.size + 1) scope.names []) (bindC (envOfC qual scope s.heap.objs.size f cd).kindOf (ps.zip us) fun _ => none) s1) :
    Inv (cxOf CX P w K mg base N qual scope f cd A outer s H E) [] (start N vs) H s1 := by
  have hpl : ps.length ≤ N.length := by have := congrArg List.length S.pre; rw [List.length_take] at this; omega
  obtain ⟨h1, tk, rfl, hk⟩ := x.done
  have noA : ∀ b : Addr, b ∉ (cxOf CX P w K mg base N qual scope f cd A outer s H E).ex := fun b z => absurd (show b ∈ ([] : List Addr) from z) (by simp)
  refine ⟨⟨e0.mod, S.kind, rfl, rfl, Nat.le_refl _, fun y z c h1 h2 => ?_, fun y hy => ?_, fun y c _ h => ?_, fun _ => hd, Around.frames_deeper e0.frames, .inr ⟨rfl, rfl⟩, fun b z => absurd z (noA b), e0.bs, e0.bsz, fun b _ _ => noA b, fun b z => absurd z (noA b), e0.funs, e0.frf⟩,
    rfl, e0.bare, Un.kept hk, ⟨_, x.toInCall.ns, fun i y v h1 h2 h3 => ?_⟩, fun y c h => ⟨_, x.cell y c h⟩, e0.hok.fresh (Nat.le_refl _), fun y c h => ?_, fun p hp => absurd (show p ∈ ([] : List (Addr × Obj)) from hp) (by simp), e0.hok.kept hk, ?_⟩
  · exact name_of_addr x.apart (PySem.mem_of_lookup h1) (PySem.mem_of_lookup h2)
  · have hy : scope.names.lookup y = some .cell ∨ scope.names.lookup y = some .free := hy
    rcases hy with hy | hy
    · exact cell_has hy
    · exact absurd rfl (S.nofree _ (PySem.mem_of_lookup hy))
  · exact Nat.le_of_lt (x.above y c (PySem.mem_of_lookup h))
  · have hi : i < vs.length := by
      unfold start at h2
      by_cases hi : i < vs.length
      · exact hi
      · rw [List.getElem?_append_right (by simpa using hi)] at h2
        rw [List.getElem?_replicate] at h2
        split at h2 <;> cases h2
    have ha : vs[i]? = some v := by
      unfold start at h2
      rw [List.getElem?_append_left (by simpa using hi), List.getElem?_map] at h2
      cases e : vs[i]? with
      | none => rw [e] at h2; cases h2
      | some a => rw [e] at h2; cases h2; rfl
    obtain ⟨u, hu, rv⟩ := r.get ha
    have hp : ps[i]? = some y := by
      rw [← S.pre, List.getElem?_take_of_lt (by omega)]; exact h1
    have ndP : ps.Nodup := by rw [← S.pre]; exact S.nd.sublist (List.take_sublist _ _)
    refine ⟨u, rv, ?_⟩
    rcases S.par y (List.mem_of_getElem? hp) with k | k
    · exact .inl ⟨k, bindL_get ndP hp hu k⟩
    · obtain ⟨c, e⟩ := cell_has (n := s.heap.objs.size + 1) k
      refine .inr ⟨.inl k, c, e, ?_⟩
      have q := x.cell y c e
      rw [bindC_get ndP hp hu (by show scope.names.lookup y ≠ _; rw [k]; decide)] at q
      exact q
  · exact e0.hok.fresh (Nat.le_of_lt (x.above y c (PySem.mem_of_lookup h)))
  · unfold start
    show _ = N.length
    rw [List.length_append, List.length_map, List.length_replicate]
    omega

/-- THE RULE: a def (or a method) of the text, by its body. The body's reading t is chosen for each entry; it is run at the parameters' values -/
theorem fn_of {CX : CXT} {P : Program} {w : World} {K : PySem.W.Frag} {mg : Str → Option Value} {base : Heap} {k : Nat} {f : Addr} {name qual : Str} {params : Arguments} {body : List Stmt} {scope : Scope} {dV kV doc pm cdv ct oc : Value} {an od : Option Addr}
    {osl : Array (Option Value)} {N ps : List Str} {sp : Sp} (lk : K.lookup f = some ⟨oc, od, .func (PySem.W.fnOf name qual params body scope dV kV doc pm an cdv ct), osl⟩) (hcd : PySem.W.codeIn K cdv qual = true) (S : FnScope N ps scope)
    (len : ∀ vs H Q E, sp vs H Q E → vs.length = ps.length)
    (hbody : ∀ (A : Around) (outer : List Env) (s : Shared) (H : Hp) (vs : List V) (Q : VK) (E : XK), Room k (A.deeper (envOfC qual scope s.heap.objs.size f cdv)) → sp vs H Q E →
      ∃ t, PSs (cxOf CX P w K mg base N qual scope f cdv A outer s H E) body t ∧ t { nx := fun _ H' => Q .non H', rt := Q } (start N vs) H) :
    FnOk P w K mg base CX (k + 1) f (PySem.W.fnOf name qual params body scope dV kV doc pm an cdv ct) ps sp := by
  refine ⟨len, fun A outer s H args us vs Q E hr e0 hb r hsp => ?_⟩
  have hl := len _ _ _ _ hsp
  have KX : K.In s.heap := e0.mod.kin.keeps fun b o e => (e0.bs b o e).1
  have lim : s.heap.NoLimit := e0.mod.nolimit.keeps fun b o e => (e0.bs b o e).1
  have hkind : ∀ y ∈ ps.zip us, scope.names.lookup y.1 = some .local ∨ (scope.names.lookup y.1 = some .cell ∧ ((cellsFrom (s.heap.objs.size + 1) scope.names []).lookup y.1).isSome = true) := fun ⟨n, v⟩ hy => by
    rcases S.par n (List.of_mem_zip hy).1 with q | q
    · exact .inl q
    · exact .inr ⟨q, PySem.W.cellsFrom_some _ _ _ (.inl q)⟩
  refine codeAny_call_function hr.depth (KX _ _ lk) rfl S.co S.gen rfl (PySem.W.codeRec_of KX hcd) (hb _ _ _ _ ?_)
  refine wpAny_newFunctionEnv_cells S.kind hkind fun env he s1 x => ?_
  subst he
  refine ⟨lim.keeps x.toInCall.keep, codeAny_func ?_⟩
  obtain ⟨t, ht, hq⟩ := hbody A outer s H vs Q E (hr.deeper _) hsp
  have I : Inv (cxOf CX P w K mg base N qual scope f cdv A outer s H E) [] (start N vs) H s1 := inv_start S hr.hd e0 hl r x
  refine wpAny_mono (ht [] s1 (start N vs) H _ I hq) (fun fl s' hs => ?_) fun e s' hs => hs
  have fin : ∀ {σ' : St} {H' : Hp} {v : V} {u : Value}, Inv (cxOf CX P w K mg base N qual scope f cdv A outer s H E) [] σ' H' s' → RelV v u → Q v H' → CE outer P w H s Q u s' :=
    fun {σ' H' v u} J rv q => ⟨v, H', J.os, J.bare, J.base, J.hok, rv, q⟩
  cases fl with
  | ret u =>
    obtain ⟨v, σ', H', J, rv, q⟩ := hs
    exact fin J rv q
  | next =>
    obtain ⟨σ', H', J, q⟩ := hs
    exact fin (v := V.non) (u := Value.none) J rfl q
  | brk =>
    obtain ⟨_, _, _, q⟩ := hs
    exact False.elim q
  | cont =>
    obtain ⟨_, _, _, q⟩ := hs
    exact False.elim q
end L2

namespace L2
open PySem PySem.Spec PyProof.Rows
section
variable {X : Cx} {x : Str} {p pos : Pos} {e : Expr} {es : List Expr} {t : TA} {id T : String} {r : List V → Hp → VK → Prop}

noncomputable def tCB (r : List V → Hp → VK → Prop) (t : TA) : TE := fun σ H Q => t σ H fun vs H1 => r vs H1 Q
/-- f(e, ..), f a built-in function -/
theorem pe_callB (hc : CallR X (.builtin id) r) (hg : Gl X x) (hm : X.mg x = none) (hv : bootBuiltins x = some (.builtin id)) (ha : PA X (e :: es) t) (hn : x ≠ "__name__" := by decide) (hdb : (x == ("__debug__" : Str)) = false := by decide)
    (he : starEach (e :: es) X.env = (false, eval e X.env) :: starEach es X.env := by rfl) (hpl : (backTo pos (starEach es X.env)).any (·.1) = false := by rfl) : PE X (.Call (.Name x p) (e :: es) [] pos) (tCB r t) := by
  intro pins s σ H Q I h
  refine wpAny_Call_Name_kw (ld_blt I hg hm hv ?_ hn hdb)
  exact PyProof.Rows.callWith_builtin1 (thn (ha pos pins s σ H _ I h) fun us s1 ⟨vs, H1, I1, r1, q1⟩ => hc pins s1 σ H1 vs us Q I1 r1 q1) he hpl
/-- T(e, ..), T a built-in type -/
theorem pe_callTy (hc : CallR X (.type T) r) (hg : Gl X x) (hm : X.mg x = none) (hv : bootBuiltins x = some (.type T)) (ha : PA X (e :: es) t) (hn : x ≠ "__name__" := by decide) (hdb : (x == ("__debug__" : Str)) = false := by decide)
    (he : starEach (e :: es) X.env = (false, eval e X.env) :: starEach es X.env := by rfl) (hpl : (backTo pos (starEach es X.env)).any (·.1) = false := by rfl) : PE X (.Call (.Name x p) (e :: es) [] pos) (tCB r t) := by
  intro pins s σ H Q I h
  refine wpAny_Call_Name_kw (ld_blt I hg hm hv ?_ hn hdb)
  exact PyProof.Rows.callWith_type1 (thn (ha pos pins s σ H _ I h) fun us s1 ⟨vs, H1, I1, r1, q1⟩ => hc pins s1 σ H1 vs us Q I1 r1 q1) he hpl
end
end L2

namespace HT
open PySem PyProof.Rows

section
open PySem.SeqAt
open PySem.AutoSeq1 (wpAny_loadPart')
open PySem.MeetsSeq PySem.MeetsSeq2 PySem.MeetsSeq3

end

section
variable {prog : Program} {w : World} {A : Around} {E : Value → Shared → Prop} {s : Shared}

/-- t + u, t not empty -/
theorem cat_tup {t b : Addr} {vs ws : List Value} {Q : Value → Shared → Prop} (ht : IsTup s.heap t vs.toArray) (hb : IsTup s.heap b ws.toArray) (hv : vs ≠ [])
    (h1 : ws = [] → Q (.ref t) s) (h2 : ws ≠ [] → Q (.ref s.heap.objs.size) { s with heap := s.heap.push { cls := .type "tuple", data := .seq (vs ++ ws).toArray } })
    (hsz : vs.length + ws.length ≤ sizeLine) : wpAny (model prog w) A (binaryOp .Add (.ref t) (.ref b)) Q E s := by
  obtain ⟨⟨cls, dd, data, sl⟩, ho, hc, n, hd⟩ := id ht
  obtain ⟨⟨cls2, dd2, data2, sl2⟩, ho2, hc2, n2, hd2⟩ := id hb
  simp only at hc hd hc2 hd2
  subst hc hd hc2 hd2
  have e : vs.toArray ++ ws.toArray = (vs ++ ws).toArray := by simp
  by_cases hw : ws = []
  · exact concat_meets ⟨_, ho, rfl⟩ ⟨_, ho2, rfl⟩ noFill_tuple_add seq_tuple_add PySem.F.slot_tuple_add PySem.F.entry_tuple_add (PySem.F.args_tuple_add_2 _ _)
      (tuple_addW1 t b vs.toArray ws.toArray n n2 dd dd2 sl sl2 (by simpa using hv) (by simp [hw])) ⟨ho, ho2, h1 hw⟩
  · refine concat_meets ⟨_, ho, rfl⟩ ⟨_, ho2, rfl⟩ noFill_tuple_add seq_tuple_add PySem.F.slot_tuple_add PySem.F.entry_tuple_add (PySem.F.args_tuple_add_2 _ _)
      (tuple_addW2 t b vs.toArray ws.toArray n n2 dd dd2 sl sl2 (by simpa using hv) (by simpa using hw) (by rw [List.size_toArray, List.size_toArray]; exact hsz)) ⟨ho, ho2, ?_⟩
    rw [e]
    exact h2 hw

/-! ### t[a:b], not the whole -/
/-- a slice's bound as a place among n (d where it is left out) -/
noncomputable def sIx (n d : Nat) : Option Int → Nat
  | none => d
  | some v => if v < 0 then (v + (n : Int)).toNat else min v.toNat n
theorem sIx_none (n d : Nat) : sIx n d none = d := rfl
theorem sIx_nat (n d k : Nat) : sIx n d (some (k : Int)) = min k n := by
  show (if (k : Int) < 0 then ((k : Int) + (n : Int)).toNat else min (k : Int).toNat n) = min k n
  rw [if_neg (by omega), Int.toNat_natCast]
theorem sIx_le (n d : Nat) (hd : d ≤ n) (o : Option Int) : sIx n d o ≤ n := by
  cases o with
  | none => exact hd
  | some v =>
    show (if v < 0 then (v + (n : Int)).toNat else min v.toNat n) ≤ n
    by_cases hv : v < 0
    · rw [if_pos hv]; omega
    · rw [if_neg hv]; exact Nat.min_le_right _ _
theorem clip_eq (v : Int) (n d : Nat) : (if v < 0 then max (v + (n : Int)) 0 else min v (n : Int)) = ((sIx n d (some v) : Nat) : Int) := by
  show (if v < 0 then max (v + (n : Int)) 0 else min v (n : Int)) = (((if v < 0 then (v + (n : Int)).toNat else min v.toNat n) : Nat) : Int)
  by_cases hv : v < 0
  · simp only [if_pos hv]; omega
  · simp only [if_neg hv]; omega
theorem adjust_gen (lo hi : Option Int) (n : Nat) : Builtin.Slice.sliceAdjust lo hi 1 (n : Int) = (((sIx n 0 lo : Nat) : Int), ((sIx n n hi : Nat) : Int)) := by
  have h1 : ¬ ((1 : Int) < 0) := by omega
  unfold Builtin.Slice.sliceAdjust
  simp only [h1, if_false]
  refine Prod.ext ?_ ?_
  · cases lo with
    | none => rfl
    | some v => exact clip_eq v n 0
  · cases hi with
    | none => rfl
    | some v => exact clip_eq v n n
theorem places_gen (i j : Nat) : Builtin.Slice.slicePlaces (i : Int) (j : Int) 1 = j - i := by
  unfold Builtin.Slice.slicePlaces
  have h1 : (1 : Int) > 0 := by omega
  simp only [h1, if_true, Int.ediv_one]
  split <;> omega
theorem slicePart_ {v : Value} {o : Option Int} {Q : Option Int → Shared → Prop} (p : IsPart v o) (h : Q o s) : wpAny (model prog w) A (Builtin.Slice.slicePartIndex v) Q E s := by
  cases p with
  | none => exact slicePart_none h
  | int i t => exact slicePart_int h
theorem sliceApplied_gen {sl : Addr} {vl vu : Value} {lo hi : Option Int} {n : Nat} {Q : Int × Int × Nat → Shared → Prop} (hs : s.heap.IsSliceOf sl vl vu .none) (pl : IsPart vl lo) (pu : IsPart vu hi)
    (h : Q (((sIx n 0 lo : Nat) : Int), 1, sIx n n hi - sIx n 0 lo) s) : wpAny (model prog w) A (Builtin.Slice.sliceApplied (.ref sl) (pure (n : Int))) Q E s := by
  obtain ⟨os, hos, hcs, hds⟩ := id hs
  unfold Builtin.Slice.sliceApplied Builtin.Slice.sliceFields
  refine wpAny_bind (wpAny_bind (wpAny_field hos hds (x := vl) rfl (wpAny_bind (wpAny_field hos hds (x := vu) rfl (wpAny_bind (wpAny_field hos hds (x := .none) rfl (wpAny_pure ?_)))))))
  refine wpAny_bind (slicePart_none ?_)
  show wpAny _ _ (if ((1 : Int) == 0) = true then _ else _) _ _ s
  rw [if_neg (by decide)]
  refine wpAny_bind (slicePart_ pl (wpAny_bind (slicePart_ pu (wpAny_bind (wpAny_pure ?_)))))
  show wpAny _ _ (match Builtin.Slice.sliceAdjust lo hi 1 (n : Int) with | (lo, hi) => pure (lo, (1 : Int), Builtin.Slice.slicePlaces lo hi 1)) _ _ s
  rw [adjust_gen lo hi n]
  show wpAny _ _ (pure (((sIx n 0 lo : Nat) : Int), (1 : Int), Builtin.Slice.slicePlaces ((sIx n 0 lo : Nat) : Int) ((sIx n n hi : Nat) : Int) 1)) _ _ s
  rw [places_gen]
  exact wpAny_pure h
theorem pick_gen (xs : Array Value) (i k : Nat) : ((List.range k).filterMap fun (m : Nat) => xs[((i : Int) + (m : Int) * 1).toNat]?).toArray = ((xs.toList.drop i).take k).toArray := by
  have e : (fun (m : Nat) => xs[((i : Int) + (m : Int) * 1).toNat]?) = fun m => xs[i + m]? := by
    funext m
    have : ((i : Int) + (m : Int) * 1).toNat = i + m := by omega
    rw [this]
  rw [e]
  have := pick_run xs i k
  rw [List.filterMap_map] at this
  have e2 : ((fun x => xs[x]?) ∘ fun x => i + x) = fun m => xs[i + m]? := rfl
  rw [e2] at this
  rw [this]

theorem getItem_tuple_cut {t sl : Addr} {items : Array Value} {vl vu : Value} {lo hi : Option Int} {Q : Value → Shared → Prop} (ht : IsTup s.heap t items) (hs : s.heap.IsSliceOf sl vl vu .none) (pl : IsPart vl lo) (pu : IsPart vu hi)
    (hw : ¬ (sIx items.size 0 lo = 0 ∧ sIx items.size items.size hi = items.size))
    (h : Q (.ref s.heap.objs.size) { s with heap := s.heap.push { cls := .type "tuple", data := .seq ((items.toList.drop (sIx items.size 0 lo)).take (sIx items.size items.size hi - sIx items.size 0 lo)).toArray } })
    (hsz : items.size ≤ sizeLine) : wpAny (model prog w) A (getItem (.ref t) (.ref sl)) Q E s := by
  have htake : sizeOk (.seq ((items.toList.drop (sIx items.size 0 lo)).take (sIx items.size items.size hi - sIx items.size 0 lo)).toArray) := by
    show ((items.toList.drop (sIx items.size 0 lo)).take (sIx items.size items.size hi - sIx items.size 0 lo)).toArray.size ≤ sizeLine
    rw [List.size_toArray, List.length_take, List.length_drop, Array.length_toList]
    omega
  have hj : sIx items.size items.size hi ≤ items.size := sIx_le _ _ (Nat.le_refl _) hi
  obtain ⟨os, hos, hcs, hds⟩ := id hs
  have hTs : s.TypeIs (.ref sl) "slice" := ⟨os, hos, hcs⟩
  unfold getItem
  try with_reducible refine wpAny_holding ?_
  first | refine wpAny_bind (wpAny_pure ?_) | skip
  refine wpAny_bind (wpAny_sequenceKey ht.typeIs (by decide) ?_)
  refine wpAny_bind (wpAny_callSpecial?_slot (name := Str.ofString "__getitem__") ht.typeIs PyProof.Rows.slot_tuple_getitem
    (wpAny_call_entry PyProof.Rows.slot_tuple_getitem ht.typeIs entry_tuple_getitem ?_ (args_tuple_getitem _ _)))
  show wpAny _ _ (Builtin.Tuple.tupleItemsOf (.ref t) >>= _) _ _ s
  refine wpAny_bind (tupleItemsOf_ ht ?_)
  refine wpAny_bind (wpAny_typeOf hTs ?_)
  rw [if_pos (by decide)]
  refine wpAny_bind (sliceApplied_gen hs pl pu ?_)
  have hno : ¬ ((((sIx items.size 0 lo : Nat) : Int) == 0 && (1 : Int) == 1 && (sIx items.size items.size hi - sIx items.size 0 lo) == items.size) = true) := by
    intro q
    rw [Bool.and_eq_true, Bool.and_eq_true] at q
    have q1 : ((sIx items.size 0 lo : Nat) : Int) = 0 := eq_of_beq q.1.1
    have q2 : sIx items.size items.size hi - sIx items.size 0 lo = items.size := eq_of_beq q.2
    exact hw ⟨by omega, by omega⟩
  show wpAny _ _ (if (((sIx items.size 0 lo : Nat) : Int) == 0 && (1 : Int) == 1 && (sIx items.size items.size hi - sIx items.size 0 lo) == items.size) = true then _ else _) _ _ s
  rw [if_neg hno, pick_gen]
  first
    | exact wpAny_bind (m := Builtin.Tuple.tupleExact _) (wpAny_newObj_type (wpAny_pure ⟨_, rfl, wpAny_pure h⟩) htake)
    | exact wpAny_bind (m := Builtin.Tuple.tupleExact _) (wpAny_newObj_type (wpAny_bind (wpAny_pure (wpAny_pure ⟨_, rfl, wpAny_pure h⟩))) htake)
    | exact wpAny_bind (wpAny_bind (m := Builtin.Tuple.tupleExact _) (wpAny_newObj_type (wpAny_pure (wpAny_pure ⟨_, rfl, wpAny_pure h⟩)) htake))
    | exact wpAny_bind (wpAny_bind (m := Builtin.Tuple.tupleExact _) (wpAny_newObj_type (wpAny_pure ⟨_, rfl, wpAny_pure h⟩) htake))
end
end HT

namespace L2
open PySem PySem.Spec PyProof.Rows

/-! ### the parts of a slice -/
noncomputable abbrev TO := St → Hp → (Option Int → Hp → Prop) → Prop
/-- a slice's part (left out, or an int) -/
noncomputable def PO (X : Cx) (e : Option Expr) (t : TO) : Prop :=
  ∀ (pins : List (Addr × Obj)) (s : Shared) (σ : St) (H : Hp) (Q : Option Int → Hp → Prop), Inv X pins σ H s → t σ H Q →
    wpAny (model X.prog X.w) X.A (evalPart e X.env) (fun u s' => ∃ o H', Inv X pins σ H' s' ∧ IsPart u o ∧ Q o H') X.xe s
noncomputable def tNoPart : TO := fun _ H Q => Q none H
noncomputable def tPart (t : TE) : TO := fun σ H Q => t σ H fun x H1 => ∃ i, x = .int i ∧ Q (some i) H1

section
variable {X : Cx} {e : Expr} {te : TE} {lo hi : Option Expr} {tl th : TO} {pos p2 : Pos}

theorem po_none : PO X none tNoPart := by
  intro pins s σ H Q I h
  rw [evalPart_none]
  exact wpAny_pure ⟨none, H, I, .none, h⟩
theorem po_some (h : PE X e te) : PO X (some e) (tPart te) := by
  intro pins s σ H Q I hw
  rw [evalPart_some]
  refine thn (h pins s σ H _ I hw) fun u s1 ⟨x, H1, I1, r1, q1⟩ => ?_
  obtain ⟨i, rfl, q⟩ := q1
  obtain ⟨t, rfl⟩ := r1
  exact ⟨some i, H1, I1, .int i t, q⟩

/-- what a slice of a value is, by values: the slice object stands at sl -/
noncomputable def SlR (X : Cx) (r : V → Option Int → Option Int → Hp → VK → Prop) : Prop :=
  ∀ (pins : List (Addr × Obj)) (s : Shared) (σ : St) (H : Hp) (x : V) (v vl vu : Value) (lo hi : Option Int) (sl : Addr) (Q : VK), Inv X pins σ H s → RelV x v → s.heap.IsSliceOf sl vl vu .none → IsPart vl lo → IsPart vu hi → r x lo hi H Q →
    ∃ T id, typeLookup (.type T) "__getitem__" = pure (some (.builtin id)) ∧ s.TypeIs v T ∧ wpAny (model X.prog X.w) X.A (getItem v (.ref sl)) (EP X pins σ Q) X.xe s
noncomputable def tSl (r : V → Option Int → Option Int → Hp → VK → Prop) (te : TE) (tl th : TO) : TE := fun σ H Q => te σ H fun x H1 => tl σ H1 fun l H2 => th σ H2 fun u H3 => r x l u H3 Q
/-- a[lo:hi], any a -/
theorem pe_slice {r : V → Option Int → Option Int → Hp → VK → Prop} (hr : SlR X r) (he : PE X e te) (hl : PO X lo tl) (hu : PO X hi th) : PE X (.Subscript e (.Slice lo hi none p2) pos) (tSl r te tl th) := by
  intro pins s σ H Q I h
  refine Subscript_ (thn (he pins s σ H _ I h) fun v s1 ⟨x, H1, I1, r1, q1⟩ => ?_)
  refine wpAny_Slice (thn (hl pins s1 σ H1 _ I1 q1) fun vl s2 ⟨l, H2, I2, pl, q2⟩ => thn (hu pins s2 σ H2 _ I2 q2) fun vu s3 ⟨u, H3, I3, pu, q3⟩ => ?_)
  rw [evalPart_none]
  refine wpAny_pure ?_
  have I4 : Inv X pins σ H3 { s3 with heap := s3.heap.push { cls := .type "slice", data := .fields #[vl, vu, .none] } } := I3.kept (t' := s3.toks) fun b ob q => Heap.get?_push_of_some _ q
  obtain ⟨T, id, hT, ht, hg⟩ := hr pins { s3 with heap := s3.heap.push { cls := .type "slice", data := .fields #[vl, vu, .none] } } σ H3 x v vl vu l u s3.heap.objs.size Q I4 r1 (Heap.IsSliceOf.new ..) pl pu q3
  show wpAny (model X.prog X.w) X.A (subscriptTail e (.Slice lo hi none p2) v (.ref s3.heap.objs.size)) (EP X pins σ Q) X.xe { s3 with heap := s3.heap.push { cls := .type "slice", data := .fields #[vl, vu, .none] } }
  exact tail_any (ops := [.ref s3.heap.objs.size, v]) ht hT hg (by with_unfolding_all rfl)

/-- the items of xs[lo:hi] -/
noncomputable def cutV (xs : List V) (lo hi : Option Int) : List V := (xs.drop (HT.sIx xs.length 0 lo)).take (HT.sIx xs.length xs.length hi - HT.sIx xs.length 0 lo)
theorem cutV_length (xs : List V) (lo hi : Option Int) : (cutV xs lo hi).length ≤ xs.length := by
  unfold cutV
  rw [List.length_take, List.length_drop]
  omega
/-- t[lo:hi], not the whole of it (the whole would be t itself) -/
noncomputable def rSlT (K : PySem.W.Frag) : V → Option Int → Option Int → Hp → VK → Prop := fun x lo hi H Q => ∃ a xs, x = .ref a ∧ SqT K H a xs ∧
  ¬ (HT.sIx xs.length 0 lo = 0 ∧ HT.sIx xs.length xs.length hi = xs.length) ∧ ∀ p, H p = none → Q (.ref p) (upd H p (.tup (cutV xs lo hi)))
theorem sl_tup : SlR X (rSlT X.K) := by
  intro pins s σ H x v vl vu lo hi sl Q I rx hs pl pu h
  obtain ⟨a, xs, rfl, hx, hw, q⟩ := h
  cases rx
  obtain ⟨its, r, ht, hz⟩ := I.tuple hx
  have hlen : its.toArray.size = xs.length := by rw [List.size_toArray]; exact r.length.symm
  refine ⟨"tuple", _, PyProof.Rows.slot_tuple_getitem.lookup, ht.typeIs, ?_⟩
  refine HT.getItem_tuple_cut ht hs pl pu (by rw [hlen]; exact hw) ?_ (by rw [hlen]; exact hz)
  rw [hlen]
  refine ⟨.ref s.heap.objs.size, _, I.laid (t' := s.toks) (o := .tup (cutV xs lo hi)) (fun b ob q => Heap.get?_push_of_some _ q) (Nat.le_refl _) ?_, rfl, q _ (I.hok.fresh (Nat.le_refl _))⟩
  exact ⟨Nat.le_trans (cutV_length xs lo hi) hz, _, (r.drop (HT.sIx xs.length 0 lo)).take (HT.sIx xs.length xs.length hi - HT.sIx xs.length 0 lo), IsTup.new _ _⟩

/-! ### t < u, t + u -/
/-- t + u, t not empty: u empty gives t itself -/
noncomputable def rCatT (K : PySem.W.Frag) : R2 := fun x y H Q => ∃ a b xs ys, x = .ref a ∧ y = .ref b ∧ SqT K H a xs ∧ SqT K H b ys ∧ xs ≠ [] ∧ xs.length + ys.length ≤ sizeLine ∧
  (ys = [] → Q (.ref a) H) ∧ (ys ≠ [] → ∀ p, H p = none → Q (.ref p) (upd H p (.tup (xs ++ ys))))
theorem Vals.nil_iff {xs : List V} {us : List Value} (r : Vals xs us) : us = [] ↔ xs = [] := by
  cases r with
  | nil => simp
  | cons _ _ => simp
theorem op_catT : OpR X (binaryOp .Add) (rCatT X.K) := by
  intro pins s σ H x y v u Q I rx ry h
  obtain ⟨a, b, xs, ys, rfl, rfl, ha, hb, hx, hz, q1, q2⟩ := h
  cases rx
  cases ry
  obtain ⟨its, r1, p1, _⟩ := I.tuple ha
  obtain ⟨its2, r2, p2, _⟩ := I.tuple hb
  refine HT.cat_tup p1 p2 (fun z => hx (r1.nil_iff.mp z)) (fun z => ⟨.ref a, H, I, rfl, q1 (r2.nil_iff.mp z)⟩) (fun z => ?_) (by rw [← r1.length, ← r2.length]; exact hz)
  refine ⟨.ref s.heap.objs.size, _, I.laid (t' := s.toks) (o := .tup (xs ++ ys)) (fun b ob q => Heap.get?_push_of_some _ q) (Nat.le_refl _) ?_, rfl, q2 (fun w => z (r2.nil_iff.mpr w)) _ (I.hok.fresh (Nat.le_refl _))⟩
  exact ⟨by rw [List.length_append]; exact hz, _, r1.append r2, IsTup.new _ _⟩
end
end L2

namespace L2
open PySem PySem.Spec PyProof.Rows

/-! ### places -/
/-- the place that an index of any sign means -/
noncomputable def ixN (n : Nat) (i : Int) : Option Nat := if 0 ≤ i then (if i < n then some i.toNat else none) else if -(n : Int) ≤ i then some (i + n).toNat else none
noncomputable def atI {α : Type} (xs : List α) (i : Int) : Option α := (ixN xs.length i).bind fun j => xs[j]?
theorem ixN_seq {n : Nat} {i : Int} {j : Nat} (h : ixN n i = some j) : seqIndex? i n = some j ∧ j < n ∧ -(n : Int) ≤ i ∧ i < n := by
  unfold ixN at h
  by_cases h0 : 0 ≤ i
  · rw [if_pos h0] at h
    by_cases h1 : i < n
    · rw [if_pos h1] at h
      have e : i.toNat = j := Option.some.inj h
      exact ⟨by rw [seqIndex_of h0 h1, e], by omega, by omega, h1⟩
    · rw [if_neg h1] at h; cases h
  · rw [if_neg h0] at h
    by_cases h1 : -(n : Int) ≤ i
    · rw [if_pos h1] at h
      have e : (i + n).toNat = j := Option.some.inj h
      exact ⟨by rw [seqIndex_neg (by omega) h1, e], by omega, h1, by omega⟩
    · rw [if_neg h1] at h; cases h
theorem atI_get {α : Type} {xs : List α} {i : Int} {v : α} (h : atI xs i = some v) : ∃ j, seqIndex? i xs.length = some j ∧ xs[j]? = some v ∧ j < xs.length ∧ -(xs.length : Int) ≤ i ∧ i < xs.length := by
  unfold atI at h
  cases e : ixN xs.length i with
  | none => rw [e] at h; cases h
  | some j =>
    rw [e] at h
    obtain ⟨h1, h2, h3, h4⟩ := ixN_seq e
    exact ⟨j, h1, h, h2, h3, h4⟩
theorem atI_nat {α : Type} {xs : List α} {j : Nat} {v : α} (h : xs[j]? = some v) : atI xs (j : Int) = some v := by
  have hj : j < xs.length := (List.getElem?_eq_some_iff.mp h).1
  have e : ixN xs.length (j : Int) = some j := by
    unfold ixN
    rw [if_pos (by omega), if_pos (by omega)]; simp
  unfold atI; rw [e]; exact h
/-! ### what may be subscripted -/
/-- what stands as an index of a plain subscript -/
noncomputable def PlainIx (b : Expr) : Prop := ∀ o i, subscripted b false o i = operate [o, i] (getItem o i)
/-- a subscript by values -/
noncomputable def IxR (X : Cx) (r : R2) : Prop :=
  ∀ (value slice : Expr) (pins : List (Addr × Obj)) (s : Shared) (σ : St) (H : Hp) (x y : V) (v u : Value) (Q : VK), Inv X pins σ H s → RelV x v → RelV y u → r x y H Q →
    subscripted slice false v u = operate [v, u] (getItem v u) → wpAny (model X.prog X.w) X.A (subscriptTail value slice v u) (EP X pins σ Q) X.xe s
/-- a call of a builtin's method by values: the receiver, the arguments -/
noncomputable def MtR (X : Cx) (id : String) (r : V → List V → Hp → VK → Prop) : Prop :=
  ∀ (pins : List (Addr × Obj)) (s : Shared) (σ : St) (H : Hp) (x : V) (xs : List V) (v : Value) (us : List Value) (Q : VK), Inv X pins σ H s → RelV x v → Vals xs us → r x xs H Q →
    wpAny (model X.prog X.w) X.A (call (.builtin id) (v :: us)) (EP X pins σ Q) X.xe s
section
variable {X : Cx} {a b : Expr} {ta tb : TE} {pos : Pos}
/-- a[b] -/
theorem pe_ix {r : R2} (hr : IxR X r) (ha : PE X a ta) (hb : PE X b tb) (hs : PlainIx b) : PE X (.Subscript a b pos) (tOp r ta tb) := by
  intro pins s σ H Q I h
  exact Subscript_ (binT ha hb I h fun v u s2 x y H2 I2 rx ry q => hr a b pins s2 σ H2 x y v u Q I2 rx ry q (hs _ _))

noncomputable def rIxL (K : PySem.W.Frag) : R2 := fun x y H Q => ∃ p xs i v, x = .ref p ∧ y = .int i ∧ SqL K H p xs ∧ atI xs i = some v ∧ Q v H
noncomputable def rIxT (K : PySem.W.Frag) : R2 := fun x y H Q => ∃ p xs i v, x = .ref p ∧ y = .int i ∧ SqT K H p xs ∧ atI xs i = some v ∧ Q v H
theorem ix_list : IxR X (rIxL X.K) := by
  intro value slice pins s σ H x y v u Q I rx ry h hs
  obtain ⟨p, xs, i, z, rfl, rfl, hq, he, q⟩ := h
  cases rx
  obtain ⟨t, rfl⟩ := ry
  obtain ⟨its, r, pl, hz⟩ := I.list hq
  obtain ⟨j, h1, h2, h3, h4, h5⟩ := atI_get he
  obtain ⟨w, ew, rw'⟩ := r.get h2
  have hl := r.length
  have hn := line63
  have fin : EP X pins σ Q w s := ⟨z, H, I, rw', q⟩
  by_cases h0 : 0 ≤ i
  · have hj : i.toNat = j := by
      rw [seqIndex_of h0 h5] at h1
      exact Option.some.inj h1
    exact item_listR pl.isList h0 (by omega) (by rw [hj]; simpa using ew) fin hs
  · have hj : (i + (its.toArray.size : Int)).toNat = j := by
      rw [seqIndex_neg (by omega) h4] at h1
      rw [List.size_toArray, ← hl]
      exact Option.some.inj h1
    exact subscriptTail_builtinR (x := w) pl.isList.typeIs slot_list_getitem.lookup
      (wpAny_getItem_list_neg (Q := fun r s' => r = w ∧ EP X pins σ Q r s') pl.isList (by omega) (by rw [List.size_toArray] <;> omega) (by omega) (by rw [hj]; simpa using ew) ⟨rfl, fin⟩) hs
theorem ix_tup : IxR X (rIxT X.K) := by
  intro value slice pins s σ H x y v u Q I rx ry h hs
  obtain ⟨p, xs, i, z, rfl, rfl, hq, he, q⟩ := h
  cases rx
  obtain ⟨t, rfl⟩ := ry
  obtain ⟨its, r, pl, hz⟩ := I.tuple hq
  obtain ⟨j, h1, h2, h3, h4, h5⟩ := atI_get he
  obtain ⟨w, ew, rw'⟩ := r.get h2
  have hl := r.length
  have hn := line63
  have fin : EP X pins σ Q w s := ⟨z, H, I, rw', q⟩
  exact subscriptTail_builtinR (x := w) pl.typeIs slot_tuple_getitem.lookup
    (getItem_tuple (j := j) (Q := fun r s' => r = w ∧ EP X pins σ Q r s') pl (by omega) (by omega) (by rw [List.size_toArray, ← hl]; exact h1) (by simpa using ew) ⟨rfl, fin⟩) hs
/-! ### xs[i] = v, any sign -/
/-- the list's object behind a store -/
theorem mapSeq_set (its : List Value) (n j : Nat) (u : Value) : Obj.mapSeq (·.setIfInBounds j u) { cls := .type "list", data := .seq its.toArray n } = { cls := .type "list", data := .seq (its.set j u).toArray n } := by
  simp [Obj.mapSeq]
theorem Inv.lst {pins : List (Addr × Obj)} {σ : St} {H : Hp} {s : Shared} {p : Addr} {xs : List V} (I : Inv X pins σ H s) (h : H p = some (.lst xs)) :
    ∃ (its : List Value) (n : Nat), Vals xs its ∧ s.heap.get? p = some { cls := .type "list", data := .seq its.toArray n } ∧ xs.length ≤ sizeLine := by
  obtain ⟨z, its, n, r, e⟩ := I.hok p _ h
  exact ⟨its, n, r, e, z⟩
/-- the list at p is written by an update of its object -/
theorem Inv.lstUpd {pins : List (Addr × Obj)} {σ : St} {H : Hp} {s : Shared} {p : Addr} {xs ys : List V} {its its' : List Value} {n n' : Nat} {f : Obj → Obj} (I : Inv X pins σ H s) (h : H p = some (.lst xs))
    (ho : s.heap.get? p = some { cls := .type "list", data := .seq its.toArray n }) (hf : f { cls := .type "list", data := .seq its.toArray n } = { cls := .type "list", data := .seq its'.toArray n' }) (r : Vals ys its') (hz : ys.length ≤ sizeLine) (t : Nat) :
    Inv X pins σ (upd H p (.lst ys)) { s with heap := s.heap.update p f, toks := t } := by
  have e : (s.heap.update p f).get? p = some { cls := .type "list", data := .seq its'.toArray n' } := by
    rw [Heap.get?_update_self f ho (by rw [hf] <;> rfl), hf]
  refine I.write (x := p) (e := p) (by rw [h]; trivial) (.inl rfl) (fun b u hb q => (Heap.get?_update_other _ _ (Ne.symm hb)).trans q) ⟨_, e⟩ ?_
  exact ⟨hz, its', n', r, e⟩
noncomputable def rSetL : V → V → V → Hp → (Hp → Prop) → Prop := fun o i v H Q => ∃ p xs k j, o = .ref p ∧ i = .int k ∧ H p = some (.lst xs) ∧ ixN xs.length k = some j ∧ Q (upd H p (.lst (xs.set j v)))
theorem set_list : PSet X rSetL := by
  intro pins s σ H o i v ov iv u Q I ro ri rv h
  obtain ⟨p, xs, k, j, rfl, rfl, hp, hj, q⟩ := h
  cases ro
  obtain ⟨t, rfl⟩ := ri
  obtain ⟨its, n, r, ho, hz⟩ := I.lst hp
  obtain ⟨h1, h2, h3, h4⟩ := ixN_seq hj
  have hl := r.length
  have hn := line63
  have I' : Inv X pins σ (upd H p (.lst (xs.set j v))) { s with heap := s.heap.update p (Obj.mapSeq (·.setIfInBounds j u)) } :=
    I.lstUpd hp ho (mapSeq_set its n j u) (r.set rv j) (by rw [List.length_set]; exact hz) s.toks
  by_cases h0 : 0 ≤ k
  · have hk : k.toNat = j := by
      rw [seqIndex_of h0 h4] at h1
      exact Option.some.inj h1
    exact PySem.W.ki_setAt ho h0 (by omega) (by rw [List.size_toArray, ← hl]; exact h4) (by rw [hk]; exact ⟨_, I', q⟩)
  · have hk : (k + (its.toArray.size : Int)).toNat = j := by
      rw [seqIndex_neg (by omega) h3] at h1
      rw [List.size_toArray, ← hl]
      exact Option.some.inj h1
    exact PySem.W.ki_setBack ho (by omega) (by rw [List.size_toArray, ← hl]; exact h3) (by omega) (by rw [hk]; exact ⟨_, I', q⟩)

/-! ### slices -/
theorem slice_bounds (lo hi : Option Int) (n : Nat) : (sliceBounds lo hi none n).1 = ((HT.sIx n 0 lo : Nat) : Int) ∧ (sliceBounds lo hi none n).2.1 = ((HT.sIx n n hi : Nat) : Int) ∧ (sliceBounds lo hi none n).2.2 = 1 := by
  refine ⟨?_, ?_, rfl⟩
  · cases lo with
    | none => simp [sliceBounds, HT.sIx]
    | some i =>
      simp only [sliceBounds, HT.sIx, Option.getD_none, show (1 : Int) > 0 by decide, if_true]
      by_cases h : i < 0
      · simp only [h, if_true] <;> omega
      · simp only [h, if_false] <;> omega
  · cases hi with
    | none => simp [sliceBounds, HT.sIx]
    | some i =>
      simp only [sliceBounds, HT.sIx, Option.getD_none, show (1 : Int) > 0 by decide, if_true]
      by_cases h : i < 0
      · simp only [h, if_true] <;> omega
      · simp only [h, if_false] <;> omega
theorem slicePick_cut (its : List Value) (lo hi : Option Int) : slicePick its.toArray lo hi none = ((its.drop (HT.sIx its.length 0 lo)).take (HT.sIx its.length its.length hi - HT.sIx its.length 0 lo)).toArray := by
  obtain ⟨h1, h2, h3⟩ := slice_bounds lo hi its.toArray.size
  unfold slicePick
  rw [h1, h2, h3]
  simp only [sliceRange_one, pick_run, List.size_toArray] <;> rfl
/-- xs[lo:hi] of a list: a new list -/
noncomputable def rSlL (K : PySem.W.Frag) : V → Option Int → Option Int → Hp → VK → Prop := fun x lo hi H Q => ∃ a xs, x = .ref a ∧ SqL K H a xs ∧ ∀ p, H p = none → Q (.ref p) (upd H p (.lst (cutV xs lo hi)))
theorem sl_list : SlR X (rSlL X.K) := by
  intro pins s σ H x v vl vu lo hi sl Q I rx hs pl pu h
  obtain ⟨a, xs, rfl, hx, q⟩ := h
  cases rx
  obtain ⟨its, r, ht, hz⟩ := I.list hx
  have hlen := r.length
  refine ⟨"list", _, slot_list_getitem.lookup, ht.isList.typeIs, ?_⟩
  refine wpAny_getItem_list_slice ht.isList hs pl pu .none (by simp) ?_ (by rw [List.size_toArray] <;> omega)
  rw [slicePick_cut, ← hlen]
  refine ⟨.ref s.heap.objs.size, _, I.laid (t' := s.toks) (o := .lst (cutV xs lo hi)) (fun b ob q => Heap.get?_push_of_some _ q) (Nat.le_refl _) ?_, rfl, q _ (I.hok.fresh (Nat.le_refl _))⟩
  exact ⟨Nat.le_trans (cutV_length xs lo hi) hz, _, 0, (r.drop (HT.sIx xs.length 0 lo)).take (HT.sIx xs.length xs.length hi - HT.sIx xs.length 0 lo), Heap.get?_push_size _ rfl⟩

/-! ### in, not in: flat items -/
noncomputable def flatV : V → Bool
  | .non => true
  | .bl _ => true
  | .int _ => true
  | .str _ => true
  | _ => false
/-- == of flat values -/
noncomputable def eqV : V → V → Bool
  | .non, .non => true
  | .bl a, .bl b => a == b
  | .bl a, .int b => (if a then 1 else 0) == b
  | .int a, .bl b => a == (if b then 1 else 0)
  | .int a, .int b => a == b
  | .str a, .str b => a == b
  | _, _ => false
theorem eqAt_V {A : Around} {s : Shared} {y x : V} {u v : Value} (ry : RelV y u) (rx : RelV x v) (fy : flatV y = true) (fx : flatV x = true) : SeqAt.EqAt A s u v (eqV y x) := by
  cases y with
  | non =>
    cases ry
    cases x with
    | non => cases rx; exact SeqAt.EqAt.same _
    | bl b => cases rx; exact SeqAt.EqAt.none_bool b
    | int b => obtain ⟨t, rfl⟩ := rx; exact SeqAt.EqAt.none_int b t
    | str b => obtain ⟨t, rfl⟩ := rx; exact SeqAt.EqAt.none_str b t
    | _ => exact absurd (show false = true from fx) Bool.false_ne_true
  | bl a =>
    cases ry
    cases x with
    | non => cases rx; exact SeqAt.EqAt.bool_none a
    | bl b => cases rx; exact SeqAt.EqAt.bool_bool a b
    | int b => obtain ⟨t, rfl⟩ := rx; exact SeqAt.EqAt.bool_int a b t
    | str b => obtain ⟨t, rfl⟩ := rx; exact SeqAt.EqAt.bool_str a b t
    | _ => exact absurd (show false = true from fx) Bool.false_ne_true
  | int a =>
    obtain ⟨t', rfl⟩ := ry
    cases x with
    | non => cases rx; exact SeqAt.EqAt.int_none a t'
    | bl b => cases rx; exact SeqAt.EqAt.int_bool a t' b
    | int b => obtain ⟨t, rfl⟩ := rx; exact SeqAt.EqAt.int_int a t' b t
    | str b => obtain ⟨t, rfl⟩ := rx; exact SeqAt.EqAt.int_str a t' b t
    | _ => exact absurd (show false = true from fx) Bool.false_ne_true
  | str a =>
    obtain ⟨t', rfl⟩ := ry
    cases x with
    | non => cases rx; exact SeqAt.EqAt.str_none a t'
    | bl b => cases rx; exact SeqAt.EqAt.str_bool a t' b
    | int b => obtain ⟨t, rfl⟩ := rx; exact SeqAt.EqAt.str_int a t' b t
    | str b => obtain ⟨t, rfl⟩ := rx; exact SeqAt.EqAt.str_str a t' b t
    | _ => exact absurd (show false = true from fx) Bool.false_ne_true
  | _ => exact absurd (show false = true from fy) Bool.false_ne_true
/-! ### len, list(x), tuple(x) of any list or tuple that is read -/
theorem call_len_seq : CallR X (.builtin "len") (fun xs H Q => ∃ p ys, xs = [.ref p] ∧ (SqL X.K H p ys ∨ SqT X.K H p ys) ∧ Q (.int ys.length) H) := by
  intro pins s σ H xs us Q I r h
  obtain ⟨p, ys, rfl, hq, q⟩ := h
  obtain ⟨u, rfl, rx⟩ := vals1 r
  cases rx
  have hn := line63
  rcases hq with hq | hq
  · obtain ⟨its, r', pl, hz⟩ := I.list hq
    have hlen := r'.length
    exact Calls.call_len_list pl.isList (by simp only [List.size_toArray] <;> omega) ⟨.int ys.length, H, I.tok _, ⟨s.toks + 1, by rw [List.size_toArray, hlen]⟩, q⟩
  · obtain ⟨its, r', pl, hz⟩ := I.tuple hq
    have hlen := r'.length
    exact len_tuple pl (by simp only [List.size_toArray] <;> omega) ⟨.int ys.length, H, I.tok _, ⟨s.toks + 1, by rw [List.size_toArray, hlen]⟩, q⟩
theorem call_list_of : CallR X (.type "list") (fun xs H Q => ∃ p ys, xs = [.ref p] ∧ (SqL X.K H p ys ∨ SqT X.K H p ys) ∧ ∀ l, H l = none → Q (.ref l) (upd H l (.lst ys))) := by
  intro pins s σ H xs us Q I r h
  obtain ⟨p, ys, rfl, hq, q⟩ := h
  obtain ⟨u, rfl, rx⟩ := vals1 r
  cases rx
  have fin : ∀ (its : List Value), Vals ys its → ys.length ≤ sizeLine → ∀ (h' : Heap) (c' : Nat), (∀ b o', s.heap.get? b = some o' → h'.get? b = some o') →
      h'.get? s.heap.objs.size = some { cls := .type "list", dict := none, data := .seq its.toArray c', slots := #[] } → EP X pins σ Q (.ref s.heap.objs.size) { s with heap := h' } := fun its r' hz h' c' kp e =>
    ⟨.ref s.heap.objs.size, _, I.laid (t' := s.toks) kp (Nat.le_refl _) (show ObjOk X.prog X.w _ h' _ (.lst ys) from ⟨hz, its, c', r', e⟩), rfl, q _ (I.hok.fresh (Nat.le_refl _))⟩
  rcases hq with hq | hq
  · obtain ⟨its, r', pl, hz⟩ := I.list hq
    have hlen := r'.length
    obtain ⟨o, ho, hc, n, hd⟩ := pl.isList
    exact call_list_seq p (.inl rfl) ho hc hd (fun h' c' kp e => fin its r' hz h' c' kp e) (by simp only [List.size_toArray] <;> omega)
  · obtain ⟨its, r', pl, hz⟩ := I.tuple hq
    have hlen := r'.length
    obtain ⟨o, ho, hc, n, hd⟩ := pl
    exact call_list_seq p (.inr rfl) ho hc hd (fun h' c' kp e => fin its r' hz h' c' kp e) (by simp only [List.size_toArray] <;> omega)
theorem call_tuple_of : CallR X (.type "tuple") (fun xs H Q => ∃ p ys, xs = [.ref p] ∧ ((SqL X.K H p ys ∧ ∀ l, H l = none → Q (.ref l) (upd H l (.tup ys))) ∨ (SqT X.K H p ys ∧ Q (.ref p) H))) := by
  intro pins s σ H xs us Q I r h
  obtain ⟨p, ys, rfl, h⟩ := h
  obtain ⟨u, rfl, rx⟩ := vals1 r
  cases rx
  rcases h with ⟨hq, q⟩ | ⟨hq, q⟩
  · obtain ⟨its, r', pl, hz⟩ := I.list hq
    have hlen := r'.length
    refine call_tuple_list pl.isList (fun h' kp => ?_) (by simp only [List.size_toArray] <;> omega)
    have I1 : Inv X pins σ H { s with heap := h' } := I.kept (t' := s.toks) kp
    have I2 : Inv X pins σ (upd H h'.objs.size (.tup ys)) { s with heap := h'.push { cls := .type "tuple", data := .seq its.toArray } } :=
      I1.laid (t' := s.toks) (fun b o e => Heap.get?_push_of_some _ e) (Nat.le_refl _) (show ObjOk X.prog X.w _ _ _ (.tup ys) from ⟨hz, its, r', IsTup.new _ _⟩)
    exact ⟨.ref h'.objs.size, _, I2, rfl, q _ (I1.hok.fresh (Nat.le_refl _))⟩
  · obtain ⟨its, r', pl, hz⟩ := I.tuple hq
    exact call_tuple_same pl ⟨.ref p, H, I, rfl, q⟩

/-! ### the call of a builtin's method: o.m(..) -/
/-- the value is of that builtin type -/
noncomputable def tyV (K : PySem.W.Frag) (T : String) (x : V) (H : Hp) : Prop := match x with
  | .str _ => T = "str"
  | .int _ => T = "int"
  | .ref p => (T = "list" ∧ ∃ xs, SqL K H p xs) ∨ (T = "tuple" ∧ ∃ o, K.lookup p = some o ∧ o.cls = .type "tuple" ∧ o.dict = none) ∨
      (T = "dict" ∧ ((∃ kvs, H p = some (.dK kvs)) ∨ ∃ kvs, H p = some (.dT kvs))) ∨ (T = "set" ∧ ∃ S n, H p = some (.set S n))
  | _ => False
theorem tyV_is {pins : List (Addr × Obj)} {σ : St} {H : Hp} {s : Shared} {T : String} {x : V} {v : Value} (I : Inv X pins σ H s) (r : RelV x v) (ty : tyV X.K T x H) :
    s.TypeIs v T ∧ ∀ a, v = .ref a → ∃ ob, s.heap.get? a = some ob ∧ ob.dict = none := by
  cases x with
  | str z =>
    obtain ⟨t, rfl⟩ := r
    cases (show T = "str" from ty)
    exact ⟨typeIs_str s z t, fun _ e => nomatch e⟩
  | int i =>
    obtain ⟨t, rfl⟩ := r
    cases (show T = "int" from ty)
    exact ⟨typeIs_int s i t, fun _ e => nomatch e⟩
  | ref p =>
    cases r
    rcases ty with ⟨rfl, xs, hq⟩ | ⟨rfl, o, hk, hc, hd⟩ | ⟨rfl, hk⟩ | ⟨rfl, S, n, hk⟩
    · obtain ⟨its, _, pl, _⟩ := I.list hq
      refine ⟨pl.isList.typeIs, fun a e => ?_⟩
      cases e
      obtain ⟨o, n, e, c, hd, _⟩ := pl
      exact ⟨o, e, hd⟩
    · refine ⟨⟨o, I.kIn p o hk, hc⟩, fun a e => ?_⟩
      cases e
      exact ⟨o, I.kIn _ o hk, hd⟩
    · have z : ∃ o, s.heap.get? p = some o ∧ o.ExactDict := by
        rcases hk with ⟨kvs, hk⟩ | ⟨kvs, hk⟩
        · obtain ⟨_, _, _, _, o, _, _, e, ex, _⟩ := I.hok p _ hk
          exact ⟨o, e, ex⟩
        · obtain ⟨_, _, _, _, o, _, _, e, ex, _⟩ := I.hok p _ hk
          exact ⟨o, e, ex⟩
      obtain ⟨o, e, ex⟩ := z
      refine ⟨⟨o, e, ex.1⟩, fun a e2 => ?_⟩
      cases e2
      exact ⟨o, e, ex.2.1⟩
    · obtain ⟨o, _, _, _, e, ex, _⟩ := I.hok p _ hk
      refine ⟨⟨o, e, ex.1⟩, fun a e2 => ?_⟩
      cases e2
      exact ⟨o, e, ex.2.1⟩
  | _ => exact False.elim ty
noncomputable def tBM0 (K : PySem.W.Frag) (T : String) (r : V → List V → Hp → VK → Prop) (to : TE) : TE := fun σ H Q => to σ H fun x H1 => tyV K T x H1 ∧ r x [] H1 Q
noncomputable def tBM (K : PySem.W.Frag) (T : String) (r : V → List V → Hp → VK → Prop) (to : TE) (t : TA) : TE := fun σ H Q => to σ H fun x H1 => tyV K T x H1 ∧ t σ H1 fun xs H2 => r x xs H2 Q
variable {o e : Expr} {es : List Expr} {to : TE} {t : TA} {name : Str} {apos cpos : Pos} {T id : String} {r : V → List V → Hp → VK → Prop}
theorem pe_bm0 (pa : PlainAttrs T) (slot : Slot T name id) (hty : typeOf (.builtin id) = pure (.type "method_descriptor")) (hm : MtR X id r) (ho : PE X o to)
    (hbase : attributeBase o name X.env (eval o X.env) = eval o X.env := by rfl) (hline : (apos.endLine == cpos.line) = true := by rfl) : PE X (.Call (.Attribute o name apos) [] [] cpos) (tBM0 X.K T r to) := by
  intro pins s σ H Q I h
  refine wpAny_Call_method0_late hbase hline (thn (ho pins s σ H _ I h) fun v s1 ⟨x, H1, I1, r1, ty, q1⟩ => ?_)
  obtain ⟨h1, h2⟩ := tyV_is I1 r1 ty
  exact ⟨T, id, pa, slot, hty, h1, h2, Calls.callWith_builtin rfl (PySem.evalArgs_none (hm pins s1 σ H1 x [] v [] Q I1 r1 .nil q1))⟩
theorem pe_bm (pa : PlainAttrs T) (slot : Slot T name id) (hty : typeOf (.builtin id) = pure (.type "method_descriptor")) (hm : MtR X id r) (ho : PE X o to) (ha : PA X (e :: es) t)
    (hbase : attributeBase o name X.env (eval o X.env) = eval o X.env := by rfl)
    (hfew : ((backTo cpos (starEach (e :: es) X.env)).all (fun x => !x.1) && (backToKw cpos (keywordEach [] X.env)).all (fun x => x.1.isSome)
      && decide ((e :: es).length + ([] : List Keyword).length + (if ([] : List Keyword).isEmpty then 0 else 1) < 30)) = true := by rfl)
    (hline : (apos.endLine == cpos.line) = true := by rfl) (hs : starEach (e :: es) X.env = (false, eval e X.env) :: starEach es X.env := by rfl) (hplain : (backTo cpos (starEach es X.env)).any (·.1) = false := by rfl) :
    PE X (.Call (.Attribute o name apos) (e :: es) [] cpos) (tBM X.K T r to t) := by
  intro pins s σ H Q I h
  refine wpAny_Call_method_late hbase hfew hline rfl (thn (ho pins s σ H _ I h) fun v s1 ⟨x, H1, I1, r1, ty, q1⟩ => ?_)
  obtain ⟨h1, h2⟩ := tyV_is I1 r1 ty
  refine ⟨T, id, pa, slot, hty, h1, h2, ?_⟩
  have hA := ha cpos pins s1 σ H1 _ I1 q1
  rw [hs] at hA ⊢
  refine Calls.callWith_builtin (by show (false || (backTo cpos (starEach es X.env)).any (·.1)) = false; rw [hplain] <;> rfl) (Calls.evalArgs_plain ?_)
  exact thn hA fun us s2 ⟨vs, H2, I2, r2, q2⟩ => hm pins s2 σ H2 x vs v us Q I2 r1 r2 q2
/- xs.append(e), list.index on a module's tuple .. are MtR facts of 06m -/
end
end L2

namespace L2
open PySem PySem.Spec PyProof.Rows

noncomputable def MtM (X : Cx) (id : String) (r : V → List V → Hp → VK → Prop) : Prop :=
  ∀ (pins : List (Addr × Obj)) (s : Shared) (σ : St) (H : Hp) (x : V) (xs : List V) (v : Value) (us : List Value) (Q : VK), Inv X pins σ H s → RelV x v → Vals xs us → r x xs H Q →
    wpAny (model X.prog X.w) X.A (call (.builtin id) (v :: us)) (EP X pins σ Q) X.xe s

/-! ### lists of values -/
theorem Vals.one : ∀ {x : V} {us : List Value}, Vals [x] us → ∃ u, us = [u] ∧ RelV x u
  | _, _, .cons r .nil => ⟨_, rfl, r⟩
theorem foldl_rep (its : List Value) : ∀ (k : Nat) (acc : List Value),
    List.foldl (fun x1 x2 => x1 ++ x2) acc.toArray (List.replicate k its.toArray) = (acc ++ (List.replicate k its).flatten).toArray
  | 0, acc => by simp
  | k + 1, acc => by
    have e : acc.toArray ++ its.toArray = (acc ++ its).toArray := by simp
    have e2 : (acc ++ its) ++ (List.replicate k its).flatten = acc ++ (List.replicate (k + 1) its).flatten := by
      rw [List.replicate_succ, List.flatten_cons, List.append_assoc]
    rw [← e2, ← foldl_rep its k (acc ++ its), ← e, List.replicate_succ, List.foldl_cons]

section
variable {X : Cx} {pins : List (Addr × Obj)} {σ : St} {H : Hp} {s : Shared} {l b : Addr} {xs ys zs : List V}

/-! ### the two steps: a tracked list is rewritten, a new list is laid -/
theorem Inv.lset {its its' : List Value} {n : Nat} {f : Array Value → Array Value} {t' : Nat} (I : Inv X pins σ H s) (hH : H l = some (.lst xs))
    (e : s.heap.get? l = some { cls := .type "list", data := .seq its.toArray n }) (hf : f its.toArray = its'.toArray) (hv : Vals ys its') (hz : ys.length ≤ sizeLine) :
    Inv X pins σ (upd H l (.lst ys)) { s with heap := s.heap.update l (Obj.mapSeq f), toks := t' } := by
  have q := PySem.IsL.update e f
  rw [hf] at q
  refine I.write (x := l) (e := l) (by rw [hH]; exact trivial) (.inl rfl) (fun b' u hb hu => (Heap.get?_update_other s.heap (Obj.mapSeq f) (Ne.symm hb)).trans hu) ⟨_, q⟩ ?_
  exact ⟨hz, its', _, hv, q⟩
theorem Inv.lnew {its : List Value} {t' : Nat} (I : Inv X pins σ H s) (hv : Vals ys its) (hz : ys.length ≤ sizeLine) :
    Inv X pins σ (upd H s.heap.objs.size (.lst ys)) { s with heap := s.heap.push { cls := .type "list", data := .seq its.toArray }, toks := t' } :=
  I.laid (fun _ _ q => Heap.get?_push_of_some _ q) (Nat.le_refl _) ⟨hz, its, 0, hv, Heap.get?_push_size _ rfl⟩
theorem Inv.fresh (I : Inv X pins σ H s) : H s.heap.objs.size = none := I.hok.fresh (Nat.le_refl _)
theorem Inv.lstM (I : Inv X pins σ H s) (hH : H l = some (.lst xs)) : xs.length ≤ sizeLine ∧ ∃ (its : List Value) (n : Nat), Vals xs its ∧ xs.length = its.length ∧ s.heap.get? l = some { cls := .type "list", data := .seq its.toArray n } := by
  obtain ⟨z, its, n, r, e⟩ := I.hok l _ hH
  exact ⟨z, its, n, r, r.length, e⟩

end

section
variable {X : Cx}

/-! ### methods -/
noncomputable def rAppend : V → List V → Hp → VK → Prop := fun x vs H Q => ∃ l xs y, x = .ref l ∧ vs = [y] ∧ H l = some (.lst xs) ∧ xs.length < sizeLine ∧ Q .non (upd H l (.lst (xs ++ [y])))
theorem mt_append : MtM X "list.append" rAppend := by
  intro pins s σ H x vs v us Q I rx rv h
  obtain ⟨l, xs, y, rfl, rfl, hH, hz, q⟩ := h
  cases rx
  obtain ⟨u, rfl, ru⟩ := rv.one
  obtain ⟨z, its, n, r, hl, e⟩ := I.lstM hH
  refine call_meets F.slot_list_append ⟨_, e, rfl⟩ F.entry_list_append (F.args_list_append_2 _ _) (PySem.list_append l its.toArray n u (by rw [List.size_toArray]; omega)) ⟨e, ?_⟩
  refine ⟨.non, _, I.lset (its' := its ++ [u]) hH e (by simp) (r.append (.cons ru .nil)) ?_, rfl, q⟩
  rw [List.length_append, List.length_singleton]
  omega

/-! ### list + list, list += list, list * int -/
noncomputable def rCat : R2 := fun x y H Q => ∃ l b xs zs, x = .ref l ∧ y = .ref b ∧ H l = some (.lst xs) ∧ H b = some (.lst zs) ∧ xs.length + zs.length ≤ sizeLine ∧ ∀ p, H p = none → Q (.ref p) (upd H p (.lst (xs ++ zs)))
theorem op_cat : OpR X (binaryOp .Add) rCat := by
  intro pins s σ H x y v u Q I rx ry h
  obtain ⟨l, b, xs, zs, rfl, rfl, hH, hB, hz, q⟩ := h
  cases rx
  cases ry
  obtain ⟨z, its, n, r, hl, e⟩ := I.lstM hH
  obtain ⟨z2, its2, n2, r2, hl2, e2⟩ := I.lstM hB
  refine PySem.P.add_list e e2 ?_ (by rw [List.size_toArray, List.size_toArray]; omega)
  have ea : its.toArray ++ its2.toArray = (its ++ its2).toArray := by simp
  rw [ea]
  exact ⟨.ref _, _, I.lnew (t' := s.toks) (r.append r2) (by rw [List.length_append]; omega), rfl, q _ I.fresh⟩
/-! ### del xs[i] -/
end

/-! ### xs[a:b] = ys -/
section
variable {prog : Program} {w : World} {A : Around} {E : Value → Shared → Prop} {s : Shared}
end

section
variable {X : Cx}
end
end L2

namespace Att
open PySem PySem.W PySem.Calls PyProof.Rows

/-! ### the script -/
theorem ints_of_wellAll {P : Params} {h : Heap} : ∀ (ns : List Int) (vs : List Value), WellAll P h vs (ns.map WData.int) → IntsAre vs ns := by
  intro ns
  induction ns with
  | nil =>
    intro vs w
    rw [List.map_nil] at w
    cases w
    exact .nil
  | cons n ns ih =>
    intro vs w
    rw [List.map_cons] at w
    cases w with
    | cons a b =>
      cases a
      exact .cons _ _ (ih _ b)

theorem script_of {l : OpenLaw} {n : Nat} (hn : l.most = some n) {P : Params} {h : Heap} {args : List WData} {vals : List Value}
    (hpre : l.row.toRowW.claim.pre args = true) (hwl : WellAll P h vals args) :
    ∃ a vs ns, vals = [Value.ref a] ∧ args = [WData.list (ns.map WData.int)] ∧ h.get? a = some { cls := .type "list", data := .seq vs.toArray } ∧ IntsAre vs ns ∧ ns.length ≤ n := by
  have hsh : WShape.hasAll [] args [.list .int] = true := (pre_splitW hpre).1
  have hc : l.pre.holds [] { args := args } = true := (pre_splitW hpre).2
  obtain ⟨d, r, rfl, h1, h2⟩ := hasAllW_cons hsh
  obtain rfl := hasAllW_nil h2
  obtain ⟨xs, rfl, h3⟩ := hasW_list h1
  obtain ⟨ns, rfl⟩ := items_int h3
  have hlen : ns.length ≤ n := by
    unfold OpenLaw.pre at hc
    have h4 : (WTm.not (.lt (.lit (.int (n : Int))) (.len (.arg 0)))).holds [] { args := [.list (ns.map .int)] } = true := by
      have h4 := (holds_andW hc).1
      rw [hn] at h4
      exact h4
    have h5 := condW_of h4 (w_not (w_lt w_lit (w_len_list (w_arg rfl))))
    rw [List.length_map] at h5
    refine Nat.le_of_not_lt fun q => ?_
    have q' : (n : Int) < ((ns.length : Nat) : Int) := by omega
    first
      | (rw [decide_eq_true q'] at h5; exact absurd h5 (by decide))
      | (simp at h5; omega)
  cases hwl with
  | cons w1 w2 =>
    cases w2
    cases w1 with
    | list ho hall => exact ⟨_, _, ns, rfl, rfl, ho, ints_of_wellAll ns _ hall, hlen⟩

theorem post_true (l : OpenLaw) (args : List WData) : l.row.toRowW.claim.post args (.bool true) args = true :=
  postW_of (r := l.row.toRowW) (X := (true == true))
    (show WShape.has [] (.bool true) .bool = true by first | rfl | decide | simp [WShape.has, WShape.arms, WShape.armsAll])
    (show (WTm.eq .res (.lit (.bool true))).value [] { args := args, res := some (.bool true), after := args } = some (.bool (true == true)) from w_eq_bool (w_res rfl) w_lit) rfl

/-! ### the attachment: holds_open's last premise (the goal 'hc' behind k_head) from a wpAny of the law's body -/
/-- the same from a codeAny of the CALL (for a layer whose function contracts speak of calls) -/
theorem attach_call {l : OpenLaw} {n : Nat} {q : Program} {loose : List Str} {XP : (Str → Option Value) → Heap → Prop} {YP : World → Heap → Prop} {d : DefRec}
    (hn : l.most = some n) (hdf : d.params.defaults = [])
    (call : ∀ (w : World) (s₀ s₁ : Shared) (mg mb : Str → Option Value) (fa : Addr) (o : Obj) (pm cd doc : Value) (a : Addr) (vs : List Value) (ns : List Int),
      Ground q loose [] XP w s₀ mg mb s₁.heap → YP w s₁.heap →
      s₁.heap.get? fa = some o → o.data = .func (docDef d.name d.params d.body d.scope pm cd doc) → s₁.heap.CodeRec cd d.name → mg d.name = some (.ref fa) →
      s₁.heap.get? a = some { cls := .type "list", data := .seq vs.toArray } → IntsAre vs ns → ns.length ≤ n → s₁.gens = #[] →
      codeAny (model l.prog w) callerA (.call (.ref fa) ⟨[.ref a], []⟩) (fun r s' => r = .ok (.ret (.bool true)) ∧ OldK s₁.heap s'.heap ∧ s'.os = s₁.os ∧ AllBare s'.gens) s₁) :
    WalkO q loose XP YP l.row.toRowW d [] (fun f vs => PySem.call f vs) := by
  intro w s₀ s₁ mg mb G Y fa o pm cd doc dV kV ho hd hcd hD hmg hg args vals as hpre hlay hrd hwl hlo
  obtain rfl : dV = .none := Dflts.none hD hdf
  obtain rfl : kV = .none := Dflts.noKw hD
  obtain ⟨a, vs, ns, rfl, rfl, hobj, hints, hlen⟩ := script_of hn hpre hwl
  refine enter_call (codeAny_mono (call w s₀ s₁ mg mb fa o pm cd doc a vs ns G Y ho (fd_plain hd) hcd hmg hobj hints hlen hg) fun r s' hq => ?_)
  obtain ⟨rfl, h2, h3, h4⟩ := hq
  exact ⟨.inl ⟨.bool true, .bool true, [], rfl, fun _ => rfl, .bool true, post_true l _, fun _ => ⟨List.Pairwise.nil, fun _ hm => (nomatch hm)⟩⟩, h2, h3, h4⟩

/-! ### rules over ANY heap (no ledger) from facts about the written part K: the library's own take a ledger (News) for what they write -/
section
variable {prog : Program} {w : World} {A : Around} {E : Value → Shared → Prop} {s : Shared} {K : Frag}

/-! the whole heap as the ledger: makes every rule that writes through a ledger a rule over any heap -/
end
end Att

namespace L2
open PySem PySem.Spec PyProof.Rows

theorem vals_ints : ∀ {vs : List Value} {ns : List Int}, IntsAre vs ns → Vals (ns.map V.int) vs
  | _, _, .nil => .nil
  | _, _, .cons n t h => .cons ⟨t, rfl⟩ (vals_ints h)

end L2

namespace L2
open PySem PySem.Spec PyProof.Rows

end L2

/- THE LAST THEOREM (shape; LID, My.* are yours):
   My.Adr: a structure of the addresses that your layer names (classes, functions); My.Txt K t: a structure (Prop) of the equations over K;
   My.txt_mk : {K} {implicit addresses ..} (e1 : nsIn K mainGlobals "law" = some (some (.ref f))) (e2 : K.lookup f = some ⟨oc, od, .func (fnOf "law" "law" params body scope dV kV doc pm an cdv ct), sl⟩) (e3 : codeIn K cdv "law" = true) .. : ∃ t, My.Txt K t

set_option maxRecDepth 100000 in
set_option maxHeartbeats 0 in
theorem PySem.Challenge.cw_LID_holds : PySem.Challenge.rw_LID.Holds := by
  w_on; o_law; k_head; (case hw => w_witness2)
  k_fill
  refine L2.walk_of (l := PySem.Challenge.rw_LID) (n := 63) (k := 40) (x := "script") (CX := fun w => ..) (sp := fun _ => My.sp_law) rfl (by decide) rfl ⟨rfl, by decide, by decide⟩ (fun w h Y => PySem.W.kIn_of Y) ?F ?S ?C
  case F =>
    intro w mg fa h KX G hmg
    have T : ∃ t, My.Txt (L2.KOf KX) t := by
      dsimp only [L2.KOf]                          -- K must stand as «<heap const> w.params» for k_is
      refine' My.txt_mk ?e1 ?e2 ?e3 ..
      (case e1 => PySem.W.k_is)                    -- in the order: a name -> its address -> its object -> its parts
      (case e2 => PySem.W.k_is)
      ..
    obtain ⟨t, T⟩ := T
    have e0 := hmg.symm.trans (PySem.W.mg_of KX G T.law)
    cases e0                                       -- fa is the law's own address
    exact ⟨_, fun s u => .of_eq rfl, fun base kb nb => My.law_fn T kb nb⟩     -- if «.of_eq rfl» comes too early: refine' ⟨_, ?b, fun base kb nb => My.law_fn T kb nb⟩; exact fun s u => .of_eq rfl
  case S => exact fun w H a ns hl hO hS => ..
  case C => exact ..
(the tactic k_is has no namespace: write k_is) -/

/-! SHORT WORDS over the layer: a def of the text, its body, what a loop and a test want. -/
namespace L2
open PySem PySem.Spec PyProof.Rows

/-! ### the text by places -/
noncomputable def defArgs (s : Stmt) : Arguments := match s with
  | .FunctionDef _ a _ _ _ _ _ _ _ _ => a
  | _ => { posonlyargs := [], args := [], vararg := none, kwonlyargs := [], kw_defaults := [], kwarg := none, defaults := [] }
noncomputable def defBody (s : Stmt) : List Stmt := match s with
  | .FunctionDef _ _ b _ _ _ _ _ _ _ => b
  | _ => []
noncomputable def defScope (s : Stmt) : Scope := match s with
  | .FunctionDef _ _ _ _ _ _ sc _ _ _ => sc
  | _ => { kind := .function, names := [], isGenerator := false, isCoroutine := false }

/-! ### no exception leaves a def -/
noncomputable abbrev CX0 : CXT := fun _ _ _ _ _ _ => False
noncomputable abbrev E0 : XK := fun _ _ _ => False
theorem pass0 {X : Cx} : Passes CX0 X E0 := fun _ _ _ _ _ _ _ h => h.elim

/-! ### a def (or method) of the text as it stands behind the top -/
structure Fun (K : PySem.W.Frag) (x qual : Str) (st : Stmt) (f : Addr) (fd : FuncData) : Prop where
  ex : ∃ (oc : Value) (od : Option Addr) (kV doc pm : Value) (an : Option Addr) (cdv ct : Value) (osl : Array (Option Value)),
    fd = PySem.W.fnOf x qual (defArgs st) (defBody st) (defScope st) .none kV doc pm an cdv ct ∧ K.lookup f = some ⟨oc, od, .func fd, osl⟩ ∧ PySem.W.codeIn K cdv qual = true
  kp : PySem.W.keepIn K (.ref f) = true
section
variable {P : Program} {w : World} {K : PySem.W.Frag} {mg : Str → Option Value} {base : Heap}
/-- THE RULE for a def: its body as a term of rules, and the reading of that term -/
theorem Fun.ok {x qual : Str} {st : Stmt} {f : Addr} {fd : FuncData} {N ps : List Str} {k : Nat} {sp : Sp} (F : Fun K x qual st f fd) (S : FnScope N ps (defScope st)) (len : ∀ vs H Q E, sp vs H Q E → vs.length = ps.length)
    (hbody : ∀ (cdv : Value) (A : Around) (outer : List Env) (s : Shared) (H : Hp) (vs : List V) (Q : VK) (E : XK), Room k (A.deeper (envOfC qual (defScope st) s.heap.objs.size f cdv)) → sp vs H Q E →
      ∃ t, PSs (cxOf CX0 P w K mg base N qual (defScope st) f cdv A outer s H E).nox (defBody st) t ∧ t { nx := fun _ H' => Q .non H', rt := Q } (start N vs) H) : FnOk P w K mg base CX0 (k + 1) f fd ps sp := by
  obtain ⟨oc, od, kV, doc, pm, an, cdv, ct, osl, rfl, lk, hcd⟩ := F.ex
  refine fn_of lk hcd S len fun A outer s H vs Q E hr hsp => ?_
  obtain ⟨t, h, q⟩ := hbody cdv A outer s H vs Q E hr hsp
  exact ⟨t, h.nox, q⟩
/-- how its arguments bind (no defaults): h is «fun _ _ _ _ _ _ us hl => match us, hl with | [_, _], _ => rfl», one _ a parameter -/
theorem Fun.binds {x qual : Str} {st : Stmt} {f : Addr} {fd : FuncData} {ps : List Str} (F : Fun K x qual st f fd)
    (h : ∀ (kV doc pm : Value) (an : Option Addr) (cdv ct : Value) (us : List Value), us.length = ps.length → bindArgs (PySem.W.fnOf x qual (defArgs st) (defBody st) (defScope st) .none kV doc pm an cdv ct) ⟨us, []⟩ = pure (ps.zip us)) : Binds K fd ps [] := by
  obtain ⟨oc, od, kV, doc, pm, an, cdv, ct, osl, rfl, lk, hcd⟩ := F.ex
  exact .all (h kV doc pm an cdv ct)
theorem fun_mk {x qual : Str} {st : Stmt} {f : Addr} {oc : Value} {od an : Option Addr} {osl : Array (Option Value)} {kV doc pm cdv ct : Value} (l : K.lookup f = some ⟨oc, od, .func (PySem.W.fnOf x qual (defArgs st) (defBody st) (defScope st) .none kV doc pm an cdv ct), osl⟩)
    (c : PySem.W.codeIn K cdv qual = true) (k : PySem.W.keepIn K (.ref f) = true) : Fun K x qual st f (PySem.W.fnOf x qual (defArgs st) (defBody st) (defScope st) .none kV doc pm an cdv ct) := ⟨⟨oc, od, kV, doc, pm, an, cdv, ct, osl, rfl, l, c⟩, k⟩
end
theorem hu_of {A : Around} {k : Nat} (hr : Room k A) : A.units + 1 < cLine := Nat.lt_of_le_of_lt (Nat.add_le_add_left (by decide : 1 ≤ 64) _) hr.units
theorem small1000 {n : Nat} (h : n ≤ 1000) : n < sizeLine := Nat.lt_of_le_of_lt h (by decide)

/-! ### expressions in short: the name that stands in the i-th slot -/
section
variable {X : Cx}
theorem pv (i : Nat) {x : Str} {pos : Pos} (hN : X.N[i]? = some x := by rfl) (hv : Vis X.env.scope x := by first | exact Or.inl rfl | exact Or.inr (Or.inl rfl) | exact Or.inr (Or.inr rfl)) (hd : (x == ("__debug__" : Str)) = false := by decide)
    (hcd : (x == ("__classdict__" : Str)) = false := by decide) : PE X (.Name x pos) (tVar i) := pe_var hN hv hd hcd
end

/-! ### tests -/
theorem iteF {A B : Prop} (h : B) : if false = true then A else B := by
  rw [if_neg Bool.false_ne_true]
  exact h
theorem iteT {A B : Prop} (h : A) : if true = true then A else B := by
  rw [if_pos rfl]
  exact h
theorem ite2 {c A B : Prop} [Decidable c] (h1 : c → A) (h2 : ¬ c → B) : if c then A else B := by
  by_cases h : c
  · rw [if_pos h]
    exact h1 h
  · rw [if_neg h]
    exact h2 h
theorem iteNS {c A B : Prop} [Decidable c] (hc : c) (h : B) : if (!decide c) = true then A else B := by
  rw [decide_eq_true hc]
  exact iteF h

/-! ### heaps -/
/-- all that was tracked is as it was -/
noncomputable def Same (H H' : Hp) : Prop := ∀ b o, H b = some o → H' b = some o
theorem Same.refl (H : Hp) : Same H H := fun _ _ h => h
theorem Same.trans {H H1 H2 : Hp} (a : Same H H1) (b : Same H1 H2) : Same H H2 := fun c o h => b c o (a c o h)
theorem Same.free {H H' : Hp} (e : Same H H') {l : Addr} (h : H' l = Option.none) : H l = Option.none := by
  cases q : H l with
  | none => rfl
  | some o =>
    rw [e l o q] at h
    cases h
theorem Same.seq {K : PySem.W.Frag} {H H' : Hp} {a : Addr} {xs : List V} (e : Same H H') (h : SqL K H a xs) : SqL K H' a xs := by
  rcases h with (h | ⟨o, h⟩) | h
  · exact .inl (.inl (e _ _ h))
  · exact .inl (.inr ⟨o, e _ _ h⟩)
  · exact .inr h

end L2

set_option maxHeartbeats 4000000
namespace L2
open PySem PySem.Spec PyProof.Rows

/-! ### the cells that a comprehension's block is handed -/
noncomputable def clF (cells : List (Str × Addr)) : List (Str × NameKind) → List (Str × Addr) → List (Str × Addr)
  | [], cs => cs
  | (n, k) :: r, cs => clF cells r (if k == .free then (match cells.lookup n with | some c => (n, c) :: cs | none => cs) else cs)

theorem clF_mem {cells : List (Str × Addr)} : ∀ (names : List (Str × NameKind)) (cs : List (Str × Addr)) (n : Str) (c : Addr), (n, c) ∈ clF cells names cs → (n, c) ∈ cs ∨ (cells.lookup n = some c ∧ (n, NameKind.free) ∈ names)
  | [], cs, n, c, h => .inl h
  | (m, k) :: r, cs, n, c, h => by
    rcases clF_mem r _ n c h with q | ⟨q, z⟩
    · by_cases hk : (k == NameKind.free) = true
      · rw [if_pos hk] at q
        have hk' : k = .free := by simpa using hk
        cases e : cells.lookup m with
        | none => rw [e] at q; exact .inl q
        | some d =>
          rw [e] at q
          rcases List.mem_cons.mp q with z | z
          · cases z; exact .inr ⟨e, by rw [hk']; exact List.mem_cons_self⟩
          · exact .inl z
      · rw [if_neg hk] at q; exact .inl q
    · exact .inr ⟨q, List.mem_cons_of_mem _ z⟩
theorem clF_sub {cells : List (Str × Addr)} : ∀ (names : List (Str × NameKind)) (cs : List (Str × Addr)), ∀ p ∈ cs, p ∈ clF cells names cs
  | [], cs, p, h => h
  | (m, k) :: r, cs, p, h => by
    refine clF_sub r _ p ?_
    by_cases hk : (k == NameKind.free) = true
    · rw [if_pos hk]
      cases cells.lookup m with
      | none => exact h
      | some d => exact List.mem_cons_of_mem _ h
    · rw [if_neg hk]; exact h
theorem clF_has {cells : List (Str × Addr)} : ∀ (names : List (Str × NameKind)) (cs : List (Str × Addr)) (n : Str) (c : Addr), (n, NameKind.free) ∈ names → cells.lookup n = some c → (n, c) ∈ clF cells names cs
  | [], _, _, _, h, _ => nomatch h
  | (m, k) :: r, cs, n, c, h, e => by
    rcases List.mem_cons.mp h with z | z
    · cases z
      refine clF_sub r _ _ ?_
      rw [if_pos (by rfl), e]
      exact List.mem_cons_self
    · exact clF_has r _ n c z e
theorem lookup_isSome_of_mem {β : Type} : ∀ {l : List (Str × β)} {n : Str} {c : β}, (n, c) ∈ l → ∃ d, l.lookup n = some d
  | (m, d) :: r, n, c, h => by
    cases e : n == m with
    | true => exact ⟨d, by simp [List.lookup_cons, e]⟩
    | false =>
      have e' : n ≠ m := by simpa using e
      rcases List.mem_cons.mp h with z | z
      · cases z; exact absurd rfl e'
      · obtain ⟨q, hq⟩ := lookup_isSome_of_mem z
        exact ⟨q, by simp [List.lookup_cons, e, hq]⟩
theorem clF_lookup {cells : List (Str × Addr)} {names : List (Str × NameKind)} {n : Str} {c : Addr} (h : (clF cells names []).lookup n = some c) : cells.lookup n = some c ∧ (n, NameKind.free) ∈ names := by
  rcases clF_mem names [] n c (PySem.mem_of_lookup h) with z | z
  · cases z
  · exact z
theorem closure_eq {env : Env} {scope : Scope} (hf : ∀ n, (n, NameKind.free) ∈ scope.names → ∃ c, env.cells.lookup n = some c) : closureFor scope env = pure (clF env.cells scope.names []) := by
  have go : ∀ (l : List (Str × NameKind)) (cs : List (Str × Addr)), (∀ n, (n, NameKind.free) ∈ l → ∃ c, env.cells.lookup n = some c) →
      (forIn l cs (fun x r => match x with | (name, kind) => if (kind == NameKind.free) = true then do
        let y ← cellOf env name
        pure (ForInStep.yield ((name, y) :: r)) else pure (ForInStep.yield r)) : Sem (List (Str × Addr))) = pure (clF env.cells l cs) := by
    intro l
    induction l with
    | nil => intro cs _; rfl
    | cons x r ih =>
      intro cs h
      obtain ⟨n, k⟩ := x
      rw [List.forIn_cons]
      by_cases hk : (k == NameKind.free) = true
      · have hk' : k = .free := by simpa using hk
        obtain ⟨c, e⟩ := h n (by rw [hk']; exact List.mem_cons_self)
        have ec : cellOf env n = pure c := by unfold cellOf; rw [e]
        simp only [hk, if_true, ec, pure_bind]
        rw [ih _ fun m hm => h m (List.mem_cons_of_mem _ hm)]
        show _ = pure (clF env.cells r _)
        rw [if_pos hk, e]
      · have hk' : (k == NameKind.free) = false := by simpa using hk
        have e1 := ih cs fun m hm => h m (List.mem_cons_of_mem _ hm)
        show (((if (k == NameKind.free) = true then _ else pure (ForInStep.yield cs)) : Sem _) >>= _) = _
        rw [if_neg hk, pure_bind]
        refine Eq.trans e1 ?_
        show _ = pure (clF env.cells r _)
        rw [if_neg hk]
  unfold closureFor
  have := go scope.names [] hf
  rw [bind_pure]
  exact this
end L2

namespace L2
open PySem PySem.Spec PyProof.Rows

/-- a comprehension's own scope against the block around it -/
structure CScope (X : Cx) (xs : List Str) (sc : Scope) : Prop where
  kind : sc.kind = .function
  nocell : ∀ y ∈ sc.names, y.2 ≠ .cell
  names : ∀ y ∈ sc.names, y.2 = .local → sc.names.lookup y.1 = some .local
  own : ∀ x ∈ xs, sc.names.lookup x = some .local
  sep : ∀ y ∈ X.N, sc.names.lookup y ≠ some .local
  frees : ∀ y ∈ sc.names, y.2 = .free → X.env.kindOf y.1 = some .cell ∨ X.env.kindOf y.1 = some .free
  nd : (xs ++ X.N).Nodup

/-- the context of a comprehension's block -/
noncomputable def cxC (X : Cx) (xs : List Str) (sc : Scope) (ex : List Addr) (s : Shared) (H : Hp) : Cx where
  prog := X.prog
  w := X.w
  K := X.K
  mg := X.mg
  base := X.base
  A := X.A
  N := xs ++ X.N
  s₀ := s
  H₀ := H
  env := compEnvC sc (clF X.env.cells sc.names []) s.heap.objs.size X.env
  outer := X.stack
  stack := X.stack
  ex := ex
  fn := fun _ => false
  calm := X.calm
  pn := []
  xe := fun _ _ => False

theorem lookup_relabel (env : Env) (x : Str) : ∀ names : List (Str × NameKind),
    (names.map fun (n, k) => if (k == NameKind.free && env.scope.kind == .function && env.kindOf n == some .cell) then (n, NameKind.cell) else (n, k)).lookup x =
      (names.lookup x).map fun k => if (k == NameKind.free && env.scope.kind == .function && env.kindOf x == some .cell) then NameKind.cell else k
  | [] => rfl
  | (n, k) :: r => by
    have ih := lookup_relabel env x r
    show List.lookup x ((if (k == NameKind.free && env.scope.kind == .function && env.kindOf n == some .cell) = true then (n, NameKind.cell) else (n, k)) :: _) = _
    cases hx : x == n with
    | true =>
      have e : x = n := by simpa using hx
      subst e
      by_cases hc : (k == NameKind.free && env.scope.kind == .function && env.kindOf x == some .cell) = true
      · rw [if_pos hc]
        simp only [List.lookup_cons, hx, Option.map_some]
        rw [if_pos hc]
      · rw [if_neg hc]
        simp only [List.lookup_cons, hx, Option.map_some]
        rw [if_neg hc]
    | false =>
      by_cases hc : (k == NameKind.free && env.scope.kind == .function && env.kindOf n == some .cell) = true
      · rw [if_pos hc]; simp only [List.lookup_cons, hx]; exact ih
      · rw [if_neg hc]; simp only [List.lookup_cons, hx]; exact ih

/-- a name of the block around, seen in the comprehension, is a free one -/
theorem vis_relabel {sc : Scope} {env : Env} {x : Str} (h : Vis (relabel sc env) x) (hl : sc.names.lookup x ≠ some .local) (hc : ∀ y ∈ sc.names, y.2 ≠ .cell) :
    (x, NameKind.free) ∈ sc.names ∧ ((relabel sc env).names.lookup x = some .cell ∨ (relabel sc env).names.lookup x = some .free) := by
  have e : (relabel sc env).names.lookup x = _ := lookup_relabel env x sc.names
  unfold Vis at h
  rw [e] at h
  cases k : sc.names.lookup x with
  | none => rw [k] at h; simp at h
  | some v =>
    have mem := PySem.mem_of_lookup k
    have nl : v ≠ .local := fun z => hl (by rw [k, z])
    have ncl : v ≠ .cell := fun z => hc _ mem z
    rw [k] at h
    rw [e, k]
    simp only [Option.map_some] at h ⊢
    by_cases hv : v = .free
    · subst hv
      refine ⟨mem, ?_⟩
      split
      · exact .inl rfl
      · exact .inr rfl
    · have : (v == NameKind.free) = false := by simpa using hv
      simp only [this, Bool.false_and] at h
      rcases h with h | h | h
      · exact absurd (Option.some.inj h) nl
      · exact absurd (Option.some.inj h) ncl
      · exact absurd (Option.some.inj h) hv

section
variable {X : Cx} {pins : List (Addr × Obj)} {σ : St} {H : Hp} {s : Shared} {xs : List Str} {sc : Scope} {ex : List Addr}
theorem CScope.cells (S : CScope X xs sc) (ok : X.Ok) : ∀ n, (n, NameKind.free) ∈ sc.names → ∃ c, X.env.cells.lookup n = some c := fun n h => ok.has n (S.frees _ h rfl)
theorem cxC_ok (S : CScope X xs sc) (I : Inv X pins σ H s) (he : ∀ b ∈ ex, b < s.heap.objs.size ∧ b ∉ frs X.stack ∧ (∀ x c, X.env.cells.lookup x = some c → c ≠ b) ∧ X.base.get? b = none) : (cxC X xs sc ex s H).Ok := by
  refine ⟨I.ok.mod, S.kind, I.ok.glob, I.ok.blt, Nat.le_refl _, fun x y c h1 h2 => ?_, fun x hx => ?_, fun _ _ h => (by cases h), I.ok.hd, I.ok.frames, .inl rfl, fun b hb => ⟨Nat.ne_of_lt (he b hb).1, fun x c h => (he b hb).2.2.1 x c (clF_lookup h).1⟩, fun b o e => ?_, ?_, fun b o e hb => ?_, fun b hb => (he b hb).2.1, I.stack, I.stkFree⟩
  · exact I.ok.inj x y c (clF_lookup h1).1 (clF_lookup h2).1
  · have hv : (relabel sc X.env).names.lookup x = some .cell ∨ (relabel sc X.env).names.lookup x = some .free := hx
    have q : (x, NameKind.free) ∈ sc.names := by
      have e : (relabel sc X.env).names.lookup x = _ := lookup_relabel X.env x sc.names
      rw [e] at hv
      cases k : sc.names.lookup x with
      | none => rw [k] at hv; simp at hv
      | some v =>
        have mem := PySem.mem_of_lookup k
        rw [k] at hv
        simp only [Option.map_some] at hv
        by_cases hvf : v = .free
        · rw [hvf] at mem; exact mem
        · have : (v == NameKind.free) = false := by simpa using hvf
          simp only [this, Bool.false_and] at hv
          rcases hv with h | h
          · exact absurd (Option.some.inj h) (S.nocell _ mem)
          · exact absurd (Option.some.inj h) hvf
    obtain ⟨c, e⟩ := S.cells I.ok x q
    exact lookup_isSome_of_mem (clF_has sc.names [] x c q e)
  · exact I.bs b o e
  · exact Nat.le_trans I.ok.bsz I.sz
  · have q : X.base.get? b = none := (he b hb).2.2.2
    have e' : X.base.get? b = some o := e
    rw [q] at e'; cases e'

/-- the block's first state -/
theorem inv_comp {h₁ : Heap} {tk : Nat} (S : CScope X xs sc) (I : Inv X pins σ H s) (he : ∀ b ∈ ex, b < s.heap.objs.size ∧ b ∉ frs X.stack ∧ (∀ x c, X.env.cells.lookup x = some c → c ≠ b) ∧ X.base.get? b = none)
    (hn : h₁.Ns s.heap.objs.size (fun _ => none)) (hk : ∀ b o, s.heap.get? b = some o → h₁.get? b = some o) :
    Inv (cxC X xs sc ex s H) [] (List.replicate xs.length none ++ σ) H { s with heap := h₁, toks := tk } := by
  have I1 : Inv X pins σ H { s with heap := h₁, toks := tk } := I.kept hk
  refine ⟨cxC_ok S I he, rfl, I.bare, Un.kept hk, ⟨_, hn, fun i x v h1 h2 h3 => ?_⟩, fun x c h => I1.cell x c (clF_lookup h).1, I.hok.fresh (Nat.le_refl _), fun x c h => I.freeC x c (clF_lookup h).1, fun p hp => absurd (show p ∈ ([] : List (Addr × Obj)) from hp) (by simp), I.hok.kept hk, ?_⟩
  · have h1' : (xs ++ X.N)[i]? = some x := h1
    by_cases hi : i < xs.length
    · rw [List.getElem?_append_left (by simpa using hi), List.getElem?_replicate, if_pos hi] at h2
      cases h2
    · have hi' : xs.length ≤ i := Nat.le_of_not_lt hi
      rw [List.getElem?_append_right (by simpa using hi')] at h2
      rw [List.getElem?_append_right hi'] at h1'
      rw [List.length_replicate] at h2
      have hm : x ∈ X.N := List.mem_of_getElem? h1'
      obtain ⟨hf, hkd⟩ := vis_relabel h3 (S.sep x hm) S.nocell
      have hko := S.frees _ hf rfl
      obtain ⟨m, _, hl⟩ := I1.loc
      obtain ⟨u, r, l⟩ := hl (i - xs.length) x v h1' h2 (by
        rcases hko with z | z
        · exact .inr (.inl z)
        · exact .inr (.inr z))
      refine ⟨u, r, .inr ⟨hkd, ?_⟩⟩
      rcases l with ⟨z, _⟩ | ⟨_, c, ec, hc⟩
      · rcases hko with q | q <;> (rw [q] at z; cases z)
      · obtain ⟨d, ed⟩ := lookup_isSome_of_mem (clF_has sc.names [] x c hf ec)
        have : c = d := by
          have := (clF_lookup ed).1
          rw [ec] at this
          exact Option.some.inj this
        subst this
        exact ⟨c, ed, hc⟩
  · show (List.replicate xs.length none ++ σ).length = (xs ++ X.N).length
    rw [List.length_append, List.length_append, List.length_replicate, I.len]
end
end L2

namespace L2
open PySem PySem.Spec PyProof.Rows

section
variable {prog : Program} {w : World} {A : Around} {R : Result → Shared → Prop} {s : Shared}
/-- a comprehension's loop, no exception leaving it -/
theorem compLoop_of {elt target iter : Expr} {ifs : List Expr} {scope : Scope} {pos : Pos} {it acc : Value} {env : Env} (I : Nat → Shared → Prop)
    (turn : ∀ n s, I n s → wpAny (model prog w) A (pyNext it) (fun r s₁ => match r with
      | none => R (.ok .next) s₁
      | some v => wpAny (model prog w) A (letOwnedTupleGo target it v) (fun _ s₁' => wpAny (model prog w) A (assign target env v) (fun _ s₂ =>
          wpAny (model prog w) A (forIn ifs true fun c r => if r = true then do let ok ← isTrue c env (eval c env); pure (ForInStep.yield ok) else pure (ForInStep.yield r)) (fun ok s₃ =>
            if ok = true then wpAny (model prog w) A (eval elt env) (fun x s₄ =>
              wpAny (model prog w) A (call (.builtin "list.append") [acc, x]) (fun _ s₅ => ∃ m, m < n ∧ I m s₅) (fun _ _ => False) s₄) (fun _ _ => False) s₃
            else ∃ m, m < n ∧ I m s₃) (fun _ _ => False) s₂) (fun _ _ => False) s₁') (fun _ _ => False) s₁) (fun _ _ => False) s)
    (n : Nat) (h : I n s) :
    codeAny (model prog w) A (.compLoop (.ListComp elt [⟨target, iter, ifs, 0⟩] scope pos) 0 it acc env) R s := by
  refine codeAny_loop rfl I (fun n s hI => ?_) n h
  show wpAny _ A ((compTurn (.ListComp elt [⟨target, iter, ifs, 0⟩] scope pos) 0 it acc env).onRaise (fun x => do noteFrame x env; theTreesLotGoes x)) _ _ s
  refine wpAny_noted ?_
  rw [compTurn_list]
  refine wpAny_bind (wpAny_standAt (wpAny_bind (wpAny_mono (turn n s hI) (fun r s₁ h₁ => ?_) fun _ _ h' => h'.elim)))
  cases r with
  | none => exact wpAny_pure h₁
  | some v =>
    refine wpAny_bind (wpAny_mono h₁ (fun _ s₁' h₁' => ?_) fun _ _ h' => h'.elim)
    refine wpAny_bind (wpAny_mono h₁' (fun _ s₂ h₂ => wpAny_bind (wpAny_mono h₂ (fun ok s₃ h₃ => ?_) fun _ _ h' => h'.elim)) fun _ _ h' => h'.elim)
    cases ok with
    | false => exact wpAny_pure ⟨rfl, h₃⟩
    | true =>
      exact wpAny_bind (wpAny_bind (wpAny_mono h₃ (fun x s₄ h₄ => wpAny_bind (wpAny_mono h₄ (fun _ s₅ h₅ => wpAny_pure (wpAny_pure ⟨rfl, h₅⟩)) fun _ _ h' => h'.elim)) fun _ _ h' => h'.elim))
end

/-- the tests of a clause -/
noncomputable def PTs (X : Cx) (ifs : List Expr) (t : TT) : Prop :=
  ∀ (pins : List (Addr × Obj)) (s : Shared) (σ : St) (H : Hp) (Q : Bool → Hp → Prop), Inv X pins σ H s → t σ H Q →
    wpAny (model X.prog X.w) X.A (forIn ifs true fun c r => if r = true then do let ok ← isTrue c X.env (eval c X.env); pure (ForInStep.yield ok) else pure (ForInStep.yield r)) (TP X pins σ Q) X.xe s
noncomputable def tYes : TT := fun _ H Q => Q true H
theorem pts_nil {X : Cx} : PTs X [] tYes := fun _ _ _ H _ I h => wpAny_tests_nil ⟨H, I, h⟩
theorem pts_one {X : Cx} {c : Expr} {t : TT} (h : PT X c t) : PTs X [c] t := fun pins s σ H Q I q => wpAny_tests_one (h pins s σ H Q I q)

section
variable {X : Cx} {pins : List (Addr × Obj)} {σ : St} {H : Hp} {s2 : Shared} {tg iter elt : Expr} {ifs : List Expr} {sc : Scope} {pos : Pos} {xs : List Str} {g : TG} {tc : TT} {te : TE} {J : It} {fp : List Addr} {it : Addr} {tn : Nat → Heap → Prop}
/-- a list object that stands untracked is taken into the tracked ones -/
theorem HOk.adopt {P : Program} {w : World} {H : Hp} {h : Heap} {a : Addr} {xs : List V} {its : List Value} {n : Nat} (x : HOk P w H h) (hn : H a = none) (hz : xs.length ≤ sizeLine) (r : Vals xs its) (e : h.get? a = some { cls := .type "list", data := .seq its.toArray n }) :
    HOk P w (upd H a (.lst xs)) h := fun b u q => by
  by_cases hb : b = a
  · subst hb; rw [upd_same] at q; cases q; exact ⟨hz, its, n, r, e⟩
  · rw [upd_ne hb] at q
    exact (x b u q).stay (fun c v _ q => q) (fun c q => by rw [upd_ne (ne_of_none q hn)]; exact q) fun c xs q => by rw [upd_ne (ne_of_none q hn)]; exact q

theorem comp_core {E : Value → Shared → Prop} {RR : Value → Addr → Result → Shared → Prop} (S : CScope X xs sc) (hcalm : X.calm = true)
    (hg : ∀ ex s3 H3, PG (cxC X xs sc ex s3 H3) tg g) (ht : ∀ ex s3 H3, PTs (cxC X xs sc ex s3 H3) ifs tc) (he : ∀ ex s3 H3, PE (cxC X xs sc ex s3 H3) elt te)
    (I : Inv X pins σ H s2) (T : Turn X.prog X.w X.K tg J fp it tn) (st : tn 0 s2.heap) (f2 : ∀ b ∈ fp, FpOk X pins H b)
    (W : Nat → Nat → List V → Hp → Prop) (w0 : ∃ m, W 0 m [] H) (F : List V → Hp → Prop)
    (turn : ∀ i m acc H, W i m acc H → (J.stop i H ∧ acc.length ≤ sizeLine ∧ F acc H) ∨
      (J.go i H ∧ acc.length < sizeLine ∧ ∃ N : List V → Hp → Prop, (∀ acc' H', N acc' H' → ∃ m', m' < m ∧ W (i + 1) m' acc' H') ∧ ∀ x H', J.yld i H x H' → g x (List.replicate xs.length none ++ σ) H' fun σ2 H2 => σ2.drop xs.length = σ ∧ tc σ2 H2 fun c H3 =>
        if c = true then te σ2 H3 fun y H4 => N (acc ++ [y]) H4 else N acc H3))
    (fin : ∀ D C s' acc H', (∃ m, s'.heap.Ns C m) → FpOk X pins (upd H' D (.lst acc)) C → F acc H' → H' D = none → Inv X pins σ (upd H' D (.lst acc)) s' → RR (.ref D) C (.ok .next) s') :
    wpAny (model X.prog X.w) X.A (newList []) (fun acc s3 => wpAny (model X.prog X.w) X.A (newFunctionEnv sc X.env.globals (clF X.env.cells sc.names []) [] X.env.qual none .none (some X.env)) (fun cenv s4 =>
      codeAny (model X.prog X.w) X.A (.compStart (.ListComp elt [⟨tg, iter, ifs, 0⟩] sc pos) 0 (.ref it) acc { cenv with scope := relabel sc X.env }) (RR acc cenv.locals) s4) E s3) E s2 := by
  refine wpAny_newObj_type (wpAny_newFunctionEnv S.nocell (by intro y hy; simp at hy) (fun h₁ hns₁ hsb₁ => ?_) S.kind)
  dsimp only at hns₁ hsb₁ ⊢
  generalize hH3 : s2.heap.push { cls := .type "list", dict := none, data := .seq ([] : List Value).toArray } = H3 at hns₁ hsb₁ ⊢
  have hC : H3.objs.size = s2.heap.objs.size + 1 := by rw [← hH3, Heap.size_push]
  have hDC : s2.heap.objs.size ≠ H3.objs.size := by rw [hC]; exact Nat.ne_of_lt (Nat.lt_succ_self _)
  have old3 : ∀ b o, s2.heap.get? b = some o → H3.get? b = some o := fun b o e => hH3 ▸ Heap.get?_push_of_some _ e
  have k1 : ∀ b o, H3.get? b = some o → h₁.get? b = some o := fun b o e => hsb₁.extBut b o (Nat.ne_of_lt (Heap.lt_size e)) (Heap.get?_push_of_some _ e)
  have I3 : Inv X pins σ H { s2 with heap := H3 } := I.kept old3
  have fpLt : ∀ b ∈ fp, b < s2.heap.objs.size := fun b hb => by
    obtain ⟨o, e, _⟩ := T.obj _ _ st b hb
    exact Heap.lt_size e
  have hnofr : ∀ b, s2.heap.objs.size ≤ b → b ∉ frs X.stack := fun b hb z => by
    rcases List.mem_cons.mp (I.stkSub b z) with q | q
    · exact absurd (Nat.lt_of_lt_of_le I.lt hb) (by rw [q]; exact Nat.lt_irrefl _)
    · exact I.nofs hb q
  have hnocell : ∀ b, s2.heap.objs.size ≤ b → ∀ x c, X.env.cells.lookup x = some c → c ≠ b := fun b hb x c e z => by
    obtain ⟨v, q⟩ := I.cell x c e
    exact absurd (Nat.lt_of_lt_of_le q.lt (by rw [z]; exact hb)) (Nat.lt_irrefl _)
  have hnobase : ∀ b, s2.heap.objs.size ≤ b → X.base.get? b = none := fun b hb => Heap.get?_none_of_le (Nat.le_trans (Nat.le_trans I.ok.bsz I.sz) hb)
  have fpfr : ∀ b ∈ fp, b ∉ frs X.stack := fun b hb z => by
    rcases List.mem_cons.mp (I.stkSub b z) with q | q
    · exact (f2 b hb).2.1 q
    · exact (f2 b hb).2.2.1 q
  have fpbase : ∀ b ∈ fp, X.base.get? b = none := fun b hb => by
    rcases (f2 b hb).2.2.2.1 with z | z
    · cases e : X.base.get? b with
      | none => rfl
      | some o => exact absurd z (I.ok.noex b o e)
    · exact Heap.get?_none_of_le (Nat.le_trans I.ok.bsz z)
  have hex : ∀ b ∈ (s2.heap.objs.size :: fp), b < H3.objs.size ∧ b ∉ frs X.stack ∧ (∀ x c, X.env.cells.lookup x = some c → c ≠ b) ∧ X.base.get? b = none := fun b hb => by
    rcases List.mem_cons.mp hb with z | z
    · subst z
      exact ⟨by rw [hC]; exact Nat.lt_succ_self _, hnofr _ (Nat.le_refl _), hnocell _ (Nat.le_refl _), hnobase _ (Nat.le_refl _)⟩
    · exact ⟨by rw [hC]; exact Nat.lt_succ_of_lt (fpLt b z), fpfr b z, (f2 b z).2.2.2.2.1, fpbase b z⟩
  have I4 := inv_comp (ex := s2.heap.objs.size :: fp) (tk := s2.toks + ([] : List (Str × Value)).length) S I3 hex hns₁ k1
  generalize hX' : cxC X xs sc (s2.heap.objs.size :: fp) { s2 with heap := H3 } H = X' at I4
  have hDn : H s2.heap.objs.size = none := I.hok.fresh (Nat.le_refl _)
  have hDobj : h₁.get? s2.heap.objs.size = some { cls := .type "list", data := .seq (([] : List Value)).toArray 0 } := k1 _ _ (hH3 ▸ Heap.get?_push_size _ rfl)
  have st1 : tn 0 h₁ := T.keep _ _ _ st fun b _ o e => k1 b o (old3 b o e)
  obtain ⟨m0, w0⟩ := w0
  -- the block's facts about D and the iterator, whatever the state
  have eXex : X'.ex = s2.heap.objs.size :: fp := by rw [← hX']; rfl
  have eXloc : X'.env.locals = H3.objs.size := by rw [← hX']; rfl
  have eXfs : X'.fs = frs X.stack := by rw [← hX']; rfl
  have eXcl : X'.env.cells = clF X.env.cells sc.names [] := by rw [← hX']; rfl
  have eXpn : X'.pn = [] := by rw [← hX']; rfl
  have eXm : X'.prog = X.prog ∧ X'.w = X.w ∧ X'.K = X.K ∧ X'.calm = true ∧ X'.A = X.A ∧ X'.xe = fun _ _ => False := by rw [← hX']; exact ⟨rfl, rfl, rfl, hcalm, rfl, rfl⟩
  obtain ⟨eP, ew, eK, ec, eA, exe⟩ := eXm
  have envE : X'.env = { newEnv sc H3.objs.size X.env.globals (clF X.env.cells sc.names []) X.env.qual none .none (some X.env) builtinsNs with scope := relabel sc X.env } := by rw [← hX']; rfl
  have hg' : PG X' tg g := hX' ▸ hg _ _ _
  have ht' : PTs X' ifs tc := hX' ▸ ht _ _ _
  have he' : PE X' elt te := hX' ▸ he _ _ _
  have hs0 : X'.s₀.heap = H3 := by rw [← hX']; rfl
  have hH0 : X'.H₀ = H := by rw [← hX']; rfl
  have hos : X'.s₀.os = s2.os := by rw [← hX']; rfl
  have loop : ∀ s₃ : Shared, s₃ = { s2 with heap := h₁, toks := s2.toks + ([] : List (Str × Value)).length } →
      codeAny (model X.prog X.w) X.A (.compLoop (.ListComp elt [⟨tg, iter, ifs, 0⟩] sc pos) 0 (.ref it) (.ref s2.heap.objs.size) X'.env) (RR (.ref s2.heap.objs.size) H3.objs.size) s₃ := by
    rintro s₃ rfl
    refine compLoop_of (fun n s' => ∃ i acc its k H', Inv X' [] (List.replicate xs.length none ++ σ) H' s' ∧ tn i s'.heap ∧ (∀ b ∈ fp, H' b = none) ∧ H' s2.heap.objs.size = none ∧ Vals acc its ∧
      s'.heap.get? s2.heap.objs.size = some { cls := .type "list", data := .seq its.toArray k } ∧ W i n acc H') ?_ m0
      ⟨0, [], [], 0, H, I4, st1, fun b hb => (f2 b hb).1, hDn, .nil, hDobj, w0⟩
    rintro n s' ⟨i, acc, its, k, H', I', st', fr', hD', rv, hobj, w'⟩
    have fpok : ∀ {o : Obj} {H'' : Hp}, (∀ b ∈ fp, H'' b = none) → ∀ b ∈ fp, FpOk X' [(s2.heap.objs.size, o)] H'' b := fun {o H''} hn b hb => by
      refine ⟨hn b hb, by rw [eXloc, hC]; exact Nat.ne_of_lt (Nat.lt_succ_of_lt (fpLt b hb)), by rw [eXfs]; exact fpfr b hb, .inl (by rw [eXex]; exact List.mem_cons_of_mem _ hb), fun x c e => ?_, fun p hp => ?_⟩
      · rw [eXcl] at e
        exact (f2 b hb).2.2.2.2.1 x c (clF_lookup e).1
      · rw [eXpn] at hp
        have : p = (s2.heap.objs.size, o) := by simpa using hp
        rw [this]
        exact Nat.ne_of_gt (fpLt b hb)
    have pinD : ∀ {H'' : Hp} {s'' : Shared} {σ'' : St} {o : Obj}, Inv X' [] σ'' H'' s'' → s''.heap.get? s2.heap.objs.size = some o → (∀ v, o.data ≠ .cell v) → H'' s2.heap.objs.size = none → Inv X' [(s2.heap.objs.size, o)] σ'' H'' s'' := fun {H'' s'' σ'' o} J e d hn =>
      J.pins_of fun p hp => by
        have : p = (s2.heap.objs.size, o) := by simpa using hp
        rw [this]
        exact ⟨e, hn, by rw [eXloc]; exact hDC, by rw [eXfs]; exact hnofr _ (Nat.le_refl _), d⟩
    have J := pinD I' hobj (fun v => by intro z; cases z) hD'
    rw [← eP, ← ew, ← eA]
    rcases turn i n acc H' w' with ⟨stop, hz, hF⟩ | ⟨go, hz, N, hN, step⟩
    · have q1 : wpAny (model X'.prog X'.w) X'.A (pyNext (.ref it)) (fun r s1 => r = none ∧ Inv X' [(s2.heap.objs.size, { cls := .type "list", data := .seq its.toArray k })] (List.replicate xs.length none ++ σ) H' s1) (fun _ _ => False) s' := by
        have := T.done X' eP ew eK ec i _ s' _ H' (fun _ _ => False) J (fpok fr') st' stop
        rw [eP, ew]; exact this
      refine thn q1 fun r s1 h1 => ?_
      obtain ⟨hr, J1⟩ := h1
      subst hr
      have e1 := J1.pin (s2.heap.objs.size, { cls := .type "list", data := .seq its.toArray k }) (List.mem_append_right _ List.mem_cons_self)
      -- back to the block around
      have un : Un (frs X.stack) (s2.heap.objs.size :: fp) H H' H3 s1.heap := by
        have := J1.base
        rw [eXfs, eXex, hH0, hs0] at this
        exact this
      have hok1 : HOk X.prog X.w H' s1.heap := by have := J1.hok; rw [eP, ew] at this; exact this
      obtain ⟨mC, hmC, _⟩ := J1.loc
      have hmC' : s1.heap.Ns H3.objs.size mC := by rw [eXloc] at hmC; exact hmC
      have hCfree : H' H3.objs.size = none := by have := J1.free; rw [eXloc] at this; exact this
      refine fin _ _ s1 acc H' ⟨mC, hmC'⟩ ?_ hF e1.2.1 ?_
      · refine I.fpOk (by rw [hC]; exact Nat.le_succ _) ?_
        rw [upd_ne (Ne.symm hDC)]
        exact hCfree
      · refine I.call' (ch := fp) (J1.os.trans hos) ?_ (hok1.adopt e1.2.1 hz rv e1.1) J1.bare fun b hb => ⟨(f2 b hb).2.2.2.1, (f2 b hb).2.1, (f2 b hb).2.2.2.2.1, (f2 b hb).2.2.2.2.2⟩
        have below : ∀ b o, s2.heap.get? b = some o → b ≠ s2.heap.objs.size := fun b o e => Nat.ne_of_lt (Heap.lt_size e)
        have nin : ∀ b o, s2.heap.get? b = some o → b ∉ fp → b ∉ s2.heap.objs.size :: fp := fun b o e hb z => (List.mem_cons.mp z).elim (below b o e) hb
        have trkne : ∀ b u, H b = some u → b ≠ s2.heap.objs.size := fun b u e z => by rw [z, hDn] at e; cases e
        refine ⟨fun b o e n hf hb => un.keep b o (old3 b o e) n hf (nin b o e hb), fun b o e n hf hb => un.slot b o (old3 b o e) n hf (nin b o e hb), fun b o e n hb => ?_, fun b o e hb => un.there b o (old3 b o e) (nin b o e hb), fun b ys e => ?_, fun b o u e => ?_, fun b ps e => ?_⟩
        · rw [upd_ne (below b o e)]; exact un.free b o (old3 b o e) n (nin b o e hb)
        · rw [upd_ne (trkne b _ e)]; exact un.tups b ys e
        · rw [upd_ne (trkne b _ e)]; exact un.frzs b o u e
        · rw [upd_ne (trkne b _ e)]; exact un.tbls b ps e
    · have q1 := T.item X' eP ew eK ec i _ s' _ H' (fun _ _ => False) J (fpok fr') st' go
      rw [← eP, ← ew] at q1
      have q2 := q1
      refine thn q2 fun r s1 h1 => ?_
      obtain ⟨u, hr, h4⟩ := h1
      subst hr
      dsimp only
      refine thn h4 fun _ s5 ⟨x, H5, J5, r5, y5, st5, fr5⟩ => ?_
      have J5' := J5.pinned (fpok fr5) (T.obj _ _ st5)
      have q5 := hg' _ s5 _ H5 x u _ J5' r5 (step x H5 y5)
      rw [exe] at q5
      refine thn q5 fun _ s6 ⟨σ6, H6, J6, hσ, q6⟩ => ?_
      have q7 := ht' _ s6 σ6 H6 _ J6 q6
      rw [exe] at q7
      refine thn q7 fun ok s7 ⟨H7, J7, q7⟩ => ?_
      -- the state behind a turn
      have lenσ : ∀ {H8 : Hp} {s8 : Shared} {pl : List (Addr × Obj)}, Inv X' pl σ6 H8 s8 → (List.replicate xs.length none ++ σ).length = σ6.length := fun {H8 s8 pl} J8 => J6.len.symm ▸ I4.len
      have weak : ∀ {H8 : Hp} {s8 : Shared} {pl : List (Addr × Obj)}, Inv X' pl σ6 H8 s8 → Inv X' pl (List.replicate xs.length none ++ σ) H8 s8 := fun {H8 s8 pl} J8 => by
        refine J8.weak (lenσ J8) fun j v e => ?_
        by_cases hj : j < xs.length
        · rw [List.getElem?_append_left (by simpa using hj), List.getElem?_replicate, if_pos hj] at e
          cases e
        · have hj' : xs.length ≤ j := Nat.le_of_not_lt hj
          rw [List.getElem?_append_right (by simpa using hj'), List.length_replicate, ← hσ, List.getElem?_drop] at e
          rw [← e]
          congr 1
          omega
      have back : ∀ {H8 : Hp} {s8 : Shared}, Inv X' ([(s2.heap.objs.size, { cls := .type "list", data := .seq its.toArray k })] ++ pinsAt fp s5.heap) σ6 H8 s8 →
          Inv X' [] (List.replicate xs.length none ++ σ) H8 s8 ∧ tn (i + 1) s8.heap ∧ (∀ b ∈ fp, H8 b = none) ∧ H8 s2.heap.objs.size = none ∧ s8.heap.get? s2.heap.objs.size = some { cls := .type "list", data := .seq its.toArray k } := fun {H8 s8} J8 => by
        have eD := J8.pin (s2.heap.objs.size, { cls := .type "list", data := .seq its.toArray k }) (List.mem_append_right _ (List.mem_append_left _ List.mem_cons_self))
        refine ⟨(weak J8).pins_of fun p hp => absurd hp (by simp), T.keep _ _ _ st5 fun b hb o e => (J8.pin (b, o) (List.mem_append_right _ (List.mem_append_right _ (mem_pinsAt hb e)))).1, fun b hb => ?_, eD.2.1, eD.1⟩
        obtain ⟨o, e, d⟩ := T.obj _ _ st5 b hb
        exact (J8.pin (b, o) (List.mem_append_right _ (List.mem_append_right _ (mem_pinsAt hb e)))).2.1
      cases ok with
      | false =>
        simp only [Bool.false_eq_true, if_false] at q7 ⊢
        obtain ⟨m', hm, w7⟩ := hN _ _ q7
        obtain ⟨a1, a2, a3, a4, a5⟩ := back J7
        exact ⟨m', hm, i + 1, acc, its, k, H7, a1, a2, a3, a4, rv, a5, w7⟩
      | true =>
        simp only [if_true] at q7 ⊢
        have q8 := he' _ s7 σ6 H7 _ J7 q7
        rw [exe] at q8
        refine thn q8 fun u8 s8 ⟨y, H8, J8, r8, q9⟩ => ?_
        obtain ⟨m', hm, w8⟩ := hN _ _ q9
        obtain ⟨a1, a2, a3, a4, a5⟩ := back J8
        have hits : its.length = acc.length := rv.length.symm
        refine wpAny_list_append_plain (hsz := by show its.toArray.size ≤ sizeLine; rw [List.size_toArray, hits]; exact Nat.le_of_lt hz) ⟨k, a5⟩ fun h9 hl9 hs9 => ?_
        obtain ⟨k9, e9⟩ := hl9
        refine ⟨m', hm, i + 1, acc ++ [y], its ++ [u8], k9, H8, ?_, ?_, a3, a4, rv.append (.cons r8 .nil), ?_, w8⟩
        · exact a1.turned (t' := s8.toks) (fun b o hb e => hs9.extBut b o hb e) a4 (by rw [eXloc]; exact hDC) (.inl (by rw [eXex]; exact List.mem_cons_self)) (fun x c e => by rw [eXcl] at e; exact hnocell _ (Nat.le_refl _) x c (clF_lookup e).1) (fun p hp => by rw [eXpn] at hp; simp at hp)
        · exact T.keep _ _ _ a2 fun b hb o e => hs9.extBut b o (Nat.ne_of_lt (fpLt b hb)) e
        · rw [e9]
          congr 2
          simp
  rw [show { newEnv sc H3.objs.size X.env.globals (clF X.env.cells sc.names []) X.env.qual none .none (some X.env) builtinsNs with scope := relabel sc X.env } = X'.env from envE.symm]
  exact codeAny_compStart_list (loop _ rfl) (T.self X.A 0 _ _ _ st1 (loop _ rfl))
end
end L2

namespace L2
open PySem PySem.Spec PyProof.Rows

/-- [elt for tg in iter if ..]: W the word by the turn, a measure, and what is gathered -/
noncomputable def LCW (n : Nat) (J : It) (g : TG) (tc : TT) (te : TE) (σ : St) (H1 : Hp) (F : List V → Hp → Prop) : Prop :=
  ∃ W : Nat → Nat → List V → Hp → Prop, (∃ m, W 0 m [] H1) ∧ ∀ i m acc H, W i m acc H → (J.stop i H ∧ acc.length ≤ sizeLine ∧ F acc H) ∨
    (J.go i H ∧ acc.length < sizeLine ∧ ∃ N : List V → Hp → Prop, (∀ acc' H', N acc' H' → ∃ m', m' < m ∧ W (i + 1) m' acc' H') ∧ ∀ x H', J.yld i H x H' → g x (List.replicate n none ++ σ) H' fun σ2 H2 => σ2.drop n = σ ∧ tc σ2 H2 fun c H3 =>
      if c = true then te σ2 H3 fun y H4 => N (acc ++ [y]) H4 else N acc H3)
noncomputable def tLC (n : Nat) (wi : TI) (g : TG) (tc : TT) (te : TE) : TE := fun σ H Q => wi σ H fun J H1 => LCW n J g tc te σ H1 fun acc H => ∀ p, H p = none → Q (.ref p) (upd H p (.lst acc))

section
variable {X : Cx} {tg iter elt : Expr} {ifs : List Expr} {sc : Scope} {pos : Pos} {xs : List Str} {wi : TI} {g : TG} {tc : TT} {te : TE}
theorem FpOk.turn {pins : List (Addr × Obj)} {σ : St} {H : Hp} {s : Shared} {C : Addr} {h' : Heap} (f : FpOk X pins H C) (I : Inv X pins σ H s) (hs : Heap.SameBut C s.heap h') : Inv X pins σ H { s with heap := h' } :=
  I.turned (t' := s.toks) (fun b o hb e => hs.extBut b o hb e) f.1 f.2.1 f.2.2.2.1 f.2.2.2.2.1 f.2.2.2.2.2
theorem pe_comp (S : CScope X xs sc) (hc : X.calm = true) (hi : PI X tg iter wi) (hg : ∀ ex s3 H3, PG (cxC X xs sc ex s3 H3) tg g) (ht : ∀ ex s3 H3, PTs (cxC X xs sc ex s3 H3) ifs tc) (he : ∀ ex s3 H3, PE (cxC X xs sc ex s3 H3) elt te)
    (hs : ∀ x, foldedSetIterable iter X.env x = pure x := by intro _; rfl) : PE X (.ListComp elt [⟨tg, iter, ifs, 0⟩] sc pos) (tLC xs.length wi g tc te) := by
  intro pins s σ H Q I h
  rw [eval_ListComp]
  refine wpAny_comprehension_free (use := none) rfl hs (closure_eq (S.cells I.ok)) S.kind S.names (thn (hi pins s σ H _ I h) fun v s1 h1 => thn h1 fun itv s2 h2 => ?_)
  obtain ⟨it, fp, tn, J, H2, e, I2, T, st2, f2, W, w0, turn⟩ := h2
  subst e
  refine comp_core (RR := fun acc C => compPost (model X.prog X.w) X.A X.xe none (EP X pins σ Q) acc C) S hc hg ht he I2 T st2 f2 W w0 _ turn fun D C s' acc H' hns fC hF hD IF => ?_
  obtain ⟨m, hm⟩ := hns
  exact ⟨m, hm, fun h' hs' => ⟨.ref D, _, fC.turn IF hs', rfl, hF D hD⟩⟩
/-- x = [..], the name stored ahead of the block's own names let go -/
theorem ps_comp {i : Nat} {y : Str} {pos' spos : Pos} (S : CScope X xs sc) (hc : X.calm = true) (hN : X.N.Nodup) (hy : X.N[i]? = some y) (hk : X.env.scope.names.lookup y = some .local)
    (hi : PI X tg iter wi) (hg : ∀ ex s3 H3, PG (cxC X xs sc ex s3 H3) tg g) (ht : ∀ ex s3 H3, PTs (cxC X xs sc ex s3 H3) ifs tc) (he : ∀ ex s3 H3, PE (cxC X xs sc ex s3 H3) elt te)
    (hsw : swapsWith (.ListComp elt [⟨tg, iter, ifs, 0⟩] sc pos) (some (.Name y pos')) spos.line X.env = pure true := by rfl)
    (hs : ∀ x, foldedSetIterable iter X.env x = pure x := by intro _; rfl) : PS X (.Assign [.Name y pos'] (.ListComp elt [⟨tg, iter, ifs, 0⟩] sc pos) spos) (tAsg (tLC xs.length wi g tc te) (gName i)) := by
  intro pins s σ H D I h
  rw [exec_Assign_Name_used _ _ _ _ hsw]
  refine wpAny_bind (wpAny_standAt (wpAny_bind ?_))
  show wpAny _ X.A (do let _ ← comprehension (.ListComp elt [⟨tg, iter, ifs, 0⟩] sc pos) sc X.env _ (newList []) false (eval iter X.env) (some (assign (.Name y pos') X.env))) _ _ s
  refine wpAny_bind (wpAny_mono (wpAny_comprehension_free (use := some (assign (.Name y pos') X.env)) (Q := fun _ s' => SP X pins D .next s') rfl hs (closure_eq (S.cells I.ok)) S.kind S.names
    (thn (hi pins s σ H _ I h) fun v s1 h1 => thn h1 fun itv s2 h2 => ?_)) (fun _ s' hq => wpAny_pure (wpAny_pure hq)) fun _ _ e => e)
  obtain ⟨it, fp, tn, J, H2, e, I2, T, st2, f2, W, w0, turn⟩ := h2
  subst e
  refine comp_core (RR := fun acc C => compPost (model X.prog X.w) X.A X.xe (some (assign (.Name y pos') X.env)) (fun _ s' => SP X pins D .next s') acc C) S hc hg ht he I2 T st2 f2 W w0 _ turn fun D' C s' acc H' hns fC hF hD IF => ?_
  obtain ⟨m, hm⟩ := hns
  refine wpAny_assign_Name (store_ok2 (v := .ref D') IF hN hy (.inl hk) rfl (fun s'' I'' hsb => ?_) (.inr hk))
  obtain ⟨a, hsb, ha⟩ := hsb
  have hne : C ≠ a := by
    rcases ha with z | z
    · rw [z]; exact fC.2.1
    · exact fun q => fC.2.2.2.2.1 y a z q.symm
  refine ⟨m, hm.sameBut hsb hne, fun h' hs' => ⟨_, _, fC.turn I'' hs', hF D' hD⟩⟩
end

/-! ### the forms one uses -/
theorem lc_list {K : PySem.W.Frag} {a : Addr} {xs : List V} {n : Nat} {g : TG} {tc : TT} {te : TE} {σ : St} {H : Hp} {F : List V → Hp → Prop} (Pv : Nat → List V → Hp → Prop) (hn : xs.length ≤ 1000000) (h0 : Pv 0 [] H)
    (hl : ∀ i acc H, i ≤ xs.length → Pv i acc H → SqL K H a xs ∧ acc.length ≤ i)
    (hs : ∀ i x acc H, xs[i]? = some x → Pv i acc H → g x (List.replicate n none ++ σ) H fun σ2 H2 => σ2.drop n = σ ∧ tc σ2 H2 fun c H3 => if c = true then te σ2 H3 fun y H4 => Pv (i + 1) (acc ++ [y]) H4 else Pv (i + 1) acc H3)
    (hd : ∀ acc H, Pv xs.length acc H → F acc H) : LCW n (Itl K a) g tc te σ H F := by
  have sz : (1000000 : Nat) < sizeLine := by rw [sizeLine_eq]; decide
  refine ⟨fun i m acc H => m = xs.length - i ∧ i ≤ xs.length ∧ Pv i acc H, ⟨xs.length, by simp, Nat.zero_le _, h0⟩, ?_⟩
  rintro i m acc H ⟨rfl, hi, p⟩
  have q := hl i acc H hi p
  by_cases hlt : i < xs.length
  · refine .inr ⟨⟨xs, xs[i], q.1, by simp [hlt]⟩, by omega, Pv (i + 1), fun acc' H' p' => ⟨xs.length - (i + 1), by omega, rfl, hlt, p'⟩, fun x H' y => ?_⟩
    obtain ⟨e, y⟩ := y
    subst e
    exact hs i x acc _ (y xs q.1) p
  · have e : i = xs.length := by omega
    subst e
    exact .inl ⟨⟨xs, q.1, Nat.le_refl _⟩, by omega, hd acc H p⟩
theorem lc_range {lo : Int} {k : Nat} {n : Nat} {g : TG} {tc : TT} {te : TE} {σ : St} {H : Hp} {F : List V → Hp → Prop} (Pv : Nat → List V → Hp → Prop) (hn : k ≤ 1000000) (h0 : Pv 0 [] H)
    (hl : ∀ i acc H, i ≤ k → Pv i acc H → acc.length ≤ i)
    (hs : ∀ i acc H, i < k → Pv i acc H → g (.int (lo + i)) (List.replicate n none ++ σ) H fun σ2 H2 => σ2.drop n = σ ∧ tc σ2 H2 fun c H3 => if c = true then te σ2 H3 fun y H4 => Pv (i + 1) (acc ++ [y]) H4 else Pv (i + 1) acc H3)
    (hd : ∀ acc H, Pv k acc H → F acc H) : LCW n (Itr lo k) g tc te σ H F := by
  have sz : (1000000 : Nat) < sizeLine := by rw [sizeLine_eq]; decide
  refine ⟨fun i m acc H => m = k - i ∧ i ≤ k ∧ Pv i acc H, ⟨k, by simp, Nat.zero_le _, h0⟩, ?_⟩
  rintro i m acc H ⟨rfl, hi, p⟩
  have q := hl i acc H hi p
  by_cases hlt : i < k
  · refine .inr ⟨hlt, by omega, Pv (i + 1), fun acc' H' p' => ⟨k - (i + 1), by omega, rfl, hlt, p'⟩, fun x H' y => ?_⟩
    obtain ⟨e, y⟩ := y
    subst e y
    exact hs i acc _ hlt p
  · have e : i = k := by omega
    subst e
    exact .inl ⟨Nat.le_refl _, by omega, hd acc H p⟩
end L2

namespace L2
open PySem PySem.Spec PyProof.Rows

section
variable {prog : Program} {w : World} {A : Around} {E : Value → Shared → Prop} {s : Shared}
theorem draw_list {it t : Addr} {items : Array Value} (hne : t ≠ it) : ∀ (n i : Nat) (s : Shared) (Q : List Value → Shared → Prop), s.heap.IsListIter it t i → s.heap.IsList t items → i + n ≤ items.size →
    (∀ h', h'.IsListIter it t (i + n) → Heap.SameBut it s.heap h' → Q ((items.toList.drop i).take n) { s with heap := h' }) → wpAny (model prog w) A (draw (.ref it) n) Q E s
  | 0, i, s, Q, hit, _, _, hQ => by
    show wpAny _ _ (pure []) Q E s
    exact wpAny_pure (by simpa using hQ s.heap hit (Heap.SameBut.refl ..))
  | n + 1, i, s, Q, hit, ht, hle, hQ => by
    have hlt : i < items.size := by omega
    show wpAny _ _ (pyNext (.ref it) >>= _) Q E s
    refine wpAny_bind (wpAny_pyNext_list_item hit ht (x := items[i]) (by simp [hlt]) fun h₁ hit₁ hs₁ => ?_)
    refine wpAny_bind (wpAny_holding (draw_list hne n (i + 1) _ _ hit₁ (ht.extBut hs₁.extBut hne) (by omega) fun h₂ hit₂ hs₂ => wpAny_pure ?_))
    have hd : items.toList.drop i = items[i] :: items.toList.drop (i + 1) := by simp [List.drop_eq_getElem_cons, hlt]
    have := hQ h₂ (by rw [show i + (n + 1) = i + 1 + n by omega]; exact hit₂) (hs₁.trans hs₂)
    rw [hd, List.take_succ_cons] at this
    exact this
theorem unpackItems_list {t : Addr} {items : Array Value} {Q : List Value → Shared → Prop} (hh : A.handled = none) (ht : s.heap.IsList t items)
    (hQ : ∀ h', Heap.ExtBut s.heap.objs.size s.heap h' → Q items.toList { s with heap := h' }) : wpAny (model prog w) A (unpackItems (.ref t) items.size none) Q E s := by
  have hlt : t ≠ s.heap.objs.size := by obtain ⟨o, ho, _⟩ := ht; exact Nat.ne_of_lt (Heap.lt_size ho)
  unfold unpackItems
  refine wpAny_bind ?_
  · unfold notIterableAtAll
    refine wpAny_bind (wpAny_specialOf ht.typeIs slot_list_iter.lookup ?_)
    refine wpAny_pure ?_
    simp only [Bool.false_eq_true, if_false]
    refine wpAny_bind (wpAny_holding (wpAny_pyIter_list ht ?_))
    refine wpAny_bind (wpAny_holding (draw_list hlt items.size 0 _ _ ⟨_, Heap.get?_push_size _ rfl, rfl, rfl⟩ (ht.push _) (by omega) fun h₁ hit₁ hs₁ => ?_))
    have hall : List.take items.size (List.drop 0 items.toList) = items.toList := by
      rw [List.drop_zero]; exact List.take_of_length_le (by simp)
    rw [hall]
    rw [if_neg (by simp)]
    have ht₁ : h₁.IsList t items := (ht.push _).extBut hs₁.extBut hlt
    refine wpAny_bind (wpAny_holding (wpAny_pyNext_list_end hh hit₁ ht₁ (by simp) fun h₂ he₂ => ?_))
    simp only [Option.isSome_none, Bool.false_eq_true, if_false]
    refine wpAny_pure (hQ h₂ fun b o hb e => he₂ b o hb (hs₁.extBut b o hb (Heap.get?_push_of_some _ e)))
theorem assign_Tuple_list {env : Env} {elts : List Expr} {x1} {pos : Pos} {t : Addr} {items : Array Value} {Q : Unit → Shared → Prop} (hh : A.handled = none) (ht : s.heap.IsList t items)
    (hn : (assignEach elts env).length = items.size) (hstar : (assignEach elts env).findIdx? (·.1) = none)
    (h : ∀ h', Heap.ExtBut s.heap.objs.size s.heap h' → wpAny (model prog w) A (assignInOrder ((assignEach elts env).map (·.2)) items.toList) Q E { s with heap := h' }) :
    wpAny (model prog w) A (assign (.Tuple elts x1 pos) env (.ref t)) Q E s := by
  rw [assign_Tuple]
  refine wpAny_bind (wpAny_standAt ?_)
  unfold unpack
  rw [hn, hstar]
  exact wpAny_bind (wpAny_holding (unpackItems_list hh ht h))
end

section
variable {X : Cx} {pos : Pos}
/-- (a, b, ..) = a list of that length -/
noncomputable def gLst (K : PySem.W.Frag) (n : Nat) (t : TGs) : TG := fun v σ H Q => ∃ a xs, v = .ref a ∧ SqL K H a xs ∧ xs.length = n ∧ t xs σ H Q
theorem pg_lst {es : List Expr} {k : Nat} {t : TGs} {n : Nat} (hc : X.calm = true) (h : PGs X es t)
    (hn : (assignEach es X.env).length = n := by rfl) (hst : (assignEach es X.env).findIdx? (·.1) = none := by rfl) : PG X (.Tuple es k pos) (gLst X.K n t) := by
  intro pins s σ H v u Q I r hw
  obtain ⟨a, xs, e1, hq, hl, hw⟩ := hw
  subst e1
  cases r
  obtain ⟨its, rv, ht, hz⟩ := I.list hq
  refine assign_Tuple_list (I.ok.hd hc) ht.isList (by simp [hn, ← hl, rv.length]) hst fun h' hx => ?_
  have I1 : Inv X pins σ H { s with heap := h' } := I.kept (t' := s.toks) fun b o e => hx b o (Nat.ne_of_lt (Heap.lt_size e)) e
  exact h pins _ σ H xs _ Q I1 (by simpa using rv) hw
/-- n.bit_length() -/
theorem mt_bitlen : MtR X "int.bit_length" (fun x xs H Q => ∃ i, x = .int i ∧ xs = [] ∧ Q (.int ((Builtin.Int.intBits i : Nat) : Int)) H) := by
  intro pins s σ H x xs v us Q I rx rs h
  obtain ⟨i, rfl, rfl, q⟩ := h
  obtain ⟨t, rfl⟩ := rx
  cases rs
  exact call_int_bit_length ⟨.int _, H, I.tok _, ⟨_, rfl⟩, q⟩
end
end L2

namespace L2
open PySem PySem.Spec PyProof.Rows

/-! ### small words -/
/-- all but what stands at st is as it was -/
noncomputable def But (st : Addr) (H H' : Hp) : Prop := ∀ b o, H b = some o → b ≠ st → H' b = some o
theorem But.refl (st : Addr) (H : Hp) : But st H H := fun _ _ h _ => h
theorem But.trans {st : Addr} {H H1 H2 : Hp} (a : But st H H1) (b : But st H1 H2) : But st H H2 := fun c o h n => b c o (a c o h n) n
theorem But.put (st : Addr) (H : Hp) (o : HO) : But st H (upd H st o) := fun b u e n => by rw [upd_ne n]; exact e
theorem Same.but {st : Addr} {H H' : Hp} (e : Same H H') : But st H H' := fun b o h _ => e b o h
theorem Same.new {H : Hp} {p : Addr} {o : HO} (h : H p = none) : Same H (upd H p o) := fun b u e => by rw [upd_ne (ne_of_none e h)]; exact e
theorem But.new {st : Addr} {H : Hp} {p : Addr} {o : HO} (h : H p = none) : But st H (upd H p o) := (Same.new h).but

theorem nat_of {x : Int} {n : Nat} (h0 : 0 ≤ x) (h1 : x < (n : Int)) : ∃ r : Nat, x = (r : Int) ∧ r < n := ⟨x.toNat, by omega, by omega⟩
theorem shl1 (m : Nat) : (1 : Int) * 2 ^ (m : Int).toNat = ((2 ^ m : Nat) : Int) := by simp
theorem cpow1 {m : Nat} (h : m ≤ 1000) : CPow 1 (m : Int) := ⟨by omega, by omega, by decide⟩
/-! ### sets as naturals -/
theorem bitAnd_nat (a b : Nat) : Builtin.bitAnd (a : Int) (b : Int) = ((a &&& b : Nat) : Int) := by
  simp [Builtin.bitAnd]
theorem bitNot_not (x : Int) : Builtin.bitNot (Builtin.bitNot x) = x := by unfold Builtin.bitNot; omega
theorem bitOr_nat (a b : Nat) : Builtin.bitOr (a : Int) (b : Int) = ((a ||| b : Nat) : Int) := by
  have ha : ¬ 0 ≤ Builtin.bitNot (a : Int) := by unfold Builtin.bitNot; omega
  have hb : ¬ 0 ≤ Builtin.bitNot (b : Int) := by unfold Builtin.bitNot; omega
  unfold Builtin.bitOr
  simp only [Builtin.bitAnd, ha, hb, decide_false, bitNot_not, Int.toNat_natCast]
theorem two_pow_int (k : Nat) : ((2 : Int) ^ k) = ((2 ^ k : Nat) : Int) := by simp
end L2

namespace L2
open PySem PySem.Spec PyProof.Rows
/-- what is asked of a comprehension's scope, reckoned -/
noncomputable def cscB (N xs : List Str) (osc sc : Scope) : Bool :=
  decide (sc.kind = .function) && sc.names.all (fun y => decide (y.2 ≠ .cell)) && sc.names.all (fun y => decide (y.2 ≠ .local) || decide (sc.names.lookup y.1 = some .local)) && xs.all (fun x => decide (sc.names.lookup x = some .local)) &&
    N.all (fun y => decide (sc.names.lookup y ≠ some .local)) && sc.names.all (fun y => decide (y.2 ≠ .free) || (decide (osc.names.lookup y.1 = some .cell) || decide (osc.names.lookup y.1 = some .free))) && decide ((xs ++ N).Nodup)
theorem cs {X : Cx} {xs : List Str} {sc : Scope} (N : List Str) (osc : Scope) (hN : X.N = N) (ho : X.env.scope = osc) (h : cscB N xs osc sc = true) : CScope X xs sc := by
  unfold cscB at h
  simp only [Bool.and_eq_true, List.all_eq_true, decide_eq_true_eq, Bool.or_eq_true] at h
  obtain ⟨⟨⟨⟨⟨⟨h1, h2⟩, h3⟩, h4⟩, h5⟩, h6⟩, h7⟩ := h
  refine ⟨h1, h2, fun y hy e => ?_, h4, by rw [hN]; exact h5, fun y hy e => ?_, by rw [hN]; exact h7⟩
  · rcases h3 y hy with z | z
    · exact absurd e z
    · exact z
  · rcases h6 y hy with z | z
    · exact absurd e z
    · show X.env.scope.names.lookup y.1 = _ ∨ X.env.scope.names.lookup y.1 = _
      rw [ho]; exact z
end L2

namespace L2
open PySem PySem.Spec PyProof.Rows
theorem mod_lo (x : Int) {m : Int} (h : 0 < m) : 0 ≤ x % m := Int.emod_nonneg _ (by omega)
theorem mod_hi (x : Int) {m : Int} (h : 0 < m) : x % m < m := Int.emod_lt_of_pos _ h
/-! ### columns of a set, as naturals -/
noncomputable def vN (k : Nat) : V := V.int (k : Int)
noncomputable def hasB (a k : Nat) : Bool := decide (a / 2 ^ k % 2 = 1)
noncomputable def bitsN (a : Nat) : Nat := Builtin.Int.intBits (a : Int)
noncomputable def colsN (a : Nat) : List Nat := (List.range (bitsN a)).filter (hasB a)
theorem map_int (l : List Nat) : (l.map fun (k : Nat) => (k : Int)).map V.int = l.map vN := by rw [List.map_map]; rfl
theorem bitsN_le {a : Nat} (h : a < 2 ^ 20) : bitsN a ≤ 20 := by
  unfold bitsN Builtin.Int.intBits
  split
  · omega
  · rename_i z
    have h0 : a ≠ 0 := by intro e; subst e; exact z rfl
    have : a.log2 < 20 := (Nat.log2_lt h0).mpr h
    show (a : Int).natAbs.log2 + 1 ≤ 20
    rw [Int.natAbs_natCast]
    omega
theorem dec_nat (a b : Nat) : decide (V.int (a : Int) = V.int (b : Int)) = decide (a = b) := by
  rw [dec_int, Bool.eq_iff_iff, beq_iff_eq, decide_eq_true_iff]
  exact Int.ofNat_inj
noncomputable def spHas : Sp := fun vs H Q _ => ∃ a k : Nat, vs = [vN a, vN k] ∧ Q (.bl (hasB a k)) H
noncomputable def spCols : Sp := fun vs H Q _ => ∃ a : Nat, vs = [vN a] ∧ a < 2 ^ 20 ∧ ∀ p, H p = none → Q (.ref p) (upd H p (.lst ((colsN a).map vN)))
noncomputable def spAllOf : Sp := fun vs H Q _ => ∃ m : Nat, vs = [vN m] ∧ m ≤ 1000 ∧ Q (vN (2 ^ m - 1)) H
theorem has_eq (a k : Nat) : decide (V.int (Builtin.bitAnd ((a : Int) / 2 ^ (k : Int).toNat) 1) = V.int 1) = hasB a k := by
  have e : ((a : Int) / 2 ^ (k : Int).toNat) = ((a / 2 ^ k : Nat) : Int) := by
    rw [Int.toNat_natCast, two_pow_int]; omega
  rw [e, show (1 : Int) = ((1 : Nat) : Int) from rfl, bitAnd_nat, dec_nat, Nat.and_one_is_mod]
  rfl
theorem filt_succ (p : Nat → Bool) (i : Nat) : (List.range (i + 1)).filter p = (List.range i).filter p ++ (if p i = true then [i] else []) := by
  rw [List.range_succ, List.filter_append]
  congr 1
  cases h : p i <;> simp [h]
end L2

namespace L2
open PySem PySem.Spec PyProof.Rows
/-! ### the rules that speak of the written part, with it told (in a comprehension's block it stands under a binder) -/
section
variable {X : Cx} {K : PySem.W.Frag}
theorem ix_listK (h : X.K = K) : IxR X (rIxL K) := h ▸ ix_list
theorem ix_tupK (h : X.K = K) : IxR X (rIxT K) := h ▸ ix_tup
theorem call_lenK (h : X.K = K) : CallR X (.builtin "len") (fun xs H Q => ∃ p ys, xs = [.ref p] ∧ (SqL K H p ys ∨ SqT K H p ys) ∧ Q (.int ys.length) H) := h ▸ call_len_seq
theorem call_listK (h : X.K = K) : CallR X (.type "list") (fun xs H Q => ∃ p ys, xs = [.ref p] ∧ (SqL K H p ys ∨ SqT K H p ys) ∧ ∀ l, H l = none → Q (.ref l) (upd H l (.lst ys))) := h ▸ call_list_of
theorem call_tupleK (h : X.K = K) : CallR X (.type "tuple") (fun xs H Q => ∃ p ys, xs = [.ref p] ∧ ((SqL K H p ys ∧ ∀ l, H l = none → Q (.ref l) (upd H l (.tup ys))) ∨ (SqT K H p ys ∧ Q (.ref p) H))) := h ▸ call_tuple_of
theorem pi_listK {tg l : Expr} {tl : TE} (h : X.K = K) (hl : PE X l tl) : PI X tg l (iList K tl) := h ▸ pi_list hl
end
end L2

namespace L2
open PySem PySem.Spec PyProof.Rows
/-! ### arithmetic of naturals -/
noncomputable def rN (C : Nat → Nat → Prop) (g : Nat → Nat → V) : R2 := fun x y H Q => ∃ i j : Nat, x = vN i ∧ y = vN j ∧ C i j ∧ Q (g i j) H
noncomputable def rN0 (g : Nat → Nat → V) : R2 := fun x y H Q => ∃ i j : Nat, x = vN i ∧ y = vN j ∧ Q (g i j) H
section
variable {X : Cx}
theorem OpR.mono {f : Value → Value → Sem Value} {r r' : R2} (h : OpR X f r) (k : ∀ x y H Q, r' x y H Q → r x y H Q) : OpR X f r' := fun pins s σ H x y v u Q I rx ry q => h pins s σ H x y v u Q I rx ry (k x y H Q q)
theorem op_addN : OpR X (binaryOp .Add) (rN0 fun i j => vN (i + j)) := op_add.mono fun x y H Q ⟨i, j, h1, h2, q⟩ => ⟨i, j, h1, h2, by show Q (V.int ((i : Int) + j)) H; rw [← Int.natCast_add]; exact q⟩
theorem op_subN : OpR X (binaryOp .Sub) (rN (fun i j => j ≤ i) fun i j => vN (i - j)) := op_sub.mono fun x y H Q ⟨i, j, h1, h2, h, q⟩ => ⟨i, j, h1, h2, by show Q (V.int ((i : Int) - j)) H; rw [← Int.ofNat_sub h]; exact q⟩
theorem op_shlN : OpR X (binaryOp .LShift) (rN (fun i j => j ≤ 1000 ∧ i < 2 ^ 64) fun i j => vN (i * 2 ^ j)) := op_shl.mono fun x y H Q ⟨i, j, h1, h2, h, q⟩ => ⟨i, j, h1, h2, ⟨by omega, by omega, by rw [Int.natAbs_natCast]; exact h.2⟩, by
  show Q (V.int ((i : Int) * 2 ^ (j : Int).toNat)) H
  rw [Int.toNat_natCast, two_pow_int, ← Int.natCast_mul]; exact q⟩
/-- 1 << j -/
theorem op_shl1 : OpR X (binaryOp .LShift) (fun x y H Q => ∃ j : Nat, x = .int 1 ∧ y = vN j ∧ j ≤ 1000 ∧ Q (vN (2 ^ j)) H) := op_shlN.mono fun x y H Q ⟨j, h1, h2, h, q⟩ => ⟨1, j, h1, h2, ⟨h, by decide⟩, by show Q (vN (1 * 2 ^ j)) H; rw [Nat.one_mul]; exact q⟩
theorem op_andN : OpR X (binaryOp .BitAnd) (rN0 fun i j => vN (i &&& j)) := op_and.mono fun x y H Q ⟨i, j, h1, h2, q⟩ => ⟨i, j, h1, h2, by show Q (V.int (Builtin.bitAnd (i : Int) j)) H; rw [bitAnd_nat]; exact q⟩
theorem op_orN : OpR X (binaryOp .BitOr) (rN0 fun i j => vN (i ||| j)) := op_or.mono fun x y H Q ⟨i, j, h1, h2, q⟩ => ⟨i, j, h1, h2, by show Q (V.int (Builtin.bitOr (i : Int) j)) H; rw [bitOr_nat]; exact q⟩
theorem op_eqN : OpR X (compareOp .Eq) (rN0 fun i j => .bl (decide (i = j))) := op_eq.mono fun x y H Q ⟨i, j, h1, h2, q⟩ => by
  subst h1 h2
  refine ⟨rfl, ?_⟩
  show Q (V.bl (decide (V.int (i : Int) = V.int (j : Int)))) H
  rw [dec_nat]; exact q
theorem op_neN : OpR X (compareOp .NotEq) (rN0 fun i j => .bl (!decide (i = j))) := op_ne.mono fun x y H Q ⟨i, j, h1, h2, q⟩ => by
  subst h1 h2
  refine ⟨rfl, ?_⟩
  show Q (V.bl (!decide (V.int (i : Int) = V.int (j : Int)))) H
  rw [dec_nat]; exact q
theorem dlt (i j : Nat) : decide ((i : Int) < (j : Int)) = decide (i < j) := by rw [decide_eq_decide]; omega
theorem op_ltN : OpR X (compareOp .Lt) (rN0 fun i j => .bl (decide (i < j))) := op_lt.mono fun x y H Q ⟨i, j, h1, h2, q⟩ => ⟨i, j, h1, h2, by show Q (V.bl (decide ((i : Int) < j))) H; rw [dlt]; exact q⟩
theorem op_gtN : OpR X (compareOp .Gt) (rN0 fun i j => .bl (decide (j < i))) := op_gt.mono fun x y H Q ⟨i, j, h1, h2, q⟩ => ⟨i, j, h1, h2, by show Q (V.bl (decide ((j : Int) < i))) H; rw [dlt]; exact q⟩
end
/-- a range from nought, its numbers as naturals -/
theorem lc_rangeN {k : Nat} {n : Nat} {g : TG} {tc : TT} {te : TE} {σ : St} {H : Hp} {F : List V → Hp → Prop} (Pv : Nat → List V → Hp → Prop) (hn : k ≤ 1000000) (h0 : Pv 0 [] H)
    (hl : ∀ i acc H, i ≤ k → Pv i acc H → acc.length ≤ i)
    (hs : ∀ i acc H, i < k → Pv i acc H → g (vN i) (List.replicate n none ++ σ) H fun σ2 H2 => σ2.drop n = σ ∧ tc σ2 H2 fun c H3 => if c = true then te σ2 H3 fun y H4 => Pv (i + 1) (acc ++ [y]) H4 else Pv (i + 1) acc H3)
    (hd : ∀ acc H, Pv k acc H → F acc H) : LCW n (Itr 0 k) g tc te σ H F :=
  lc_range Pv hn h0 hl (fun i acc H hi p => by rw [Int.zero_add]; exact hs i acc H hi p) hd
theorem for_rangeN {n : Nat} {g : TG} {tb : TS} {D : Ends} {σ : St} {H : Hp} (Pv : Nat → St → Hp → Prop) (h0 : Pv 0 σ H)
    (hs : ∀ i σ H, i < n → Pv i σ H → g (vN i) σ H fun σ2 H2 => tb { D with nx := Pv (i + 1), ct := Pv (i + 1), bk := D.nx } σ2 H2) (hd : ∀ σ H, Pv n σ H → D.nx σ H) :
    ∃ W : Nat → Nat → St → Hp → Prop, (∃ m, W 0 m σ H) ∧ ∀ i m σ H, W i m σ H →
      ((Itr 0 n).stop i H ∧ D.nx σ H) ∨ ((Itr 0 n).go i H ∧ ∃ N : St → Hp → Prop, (∀ σ' H', N σ' H' → ∃ m', m' < m ∧ W (i + 1) m' σ' H') ∧ ∀ x H', (Itr 0 n).yld i H x H' → g x σ H' fun σ2 H2 => tb { D with nx := N, ct := N, bk := D.nx } σ2 H2) :=
  for_range (lo := 0) Pv h0 (fun i σ H hi p => by rw [Int.zero_add]; exact hs i σ H hi p) hd
end L2

namespace L2
open PySem PySem.Spec PyProof.Rows
/-! ### insert, index, sorted; a name let go -/
section
variable {X : Cx} {K : PySem.W.Frag}
end
/-! ### the law's script and its place, the script frozen: lists of one's own stand apart from it -/
noncomputable def SqF (K : PySem.W.Frag) (H : Hp) (a : Addr) (ns : List Int) : Prop := (∃ o, H a = some (.frz o (.lst (ns.map V.int)))) ∨
  ∃ (o : Obj) (its : Array Value) (n : Nat), K.lookup a = some o ∧ o.cls = .type "list" ∧ o.dict = none ∧ o.data = .seq its n ∧ its.size ≤ sizeLine ∧ Vals (ns.map V.int) its.toList
theorem SqF.sq {K : PySem.W.Frag} {H : Hp} {a : Addr} {ns : List Int} (h : SqF K H a ns) : SqL K H a (ns.map V.int) := by
  rcases h with ⟨o, h⟩ | h
  · exact .inl (.inr ⟨o, h⟩)
  · exact .inr h
theorem SqF.imp {K : PySem.W.Frag} {H H' : Hp} {a : Addr} {ns : List Int} (h : SqF K H a ns) (e : ∀ o, H a = some (.frz o (.lst (ns.map V.int))) → H' a = some (.frz o (.lst (ns.map V.int)))) : SqF K H' a ns := by
  rcases h with ⟨o, h⟩ | h
  · exact .inl ⟨o, e o h⟩
  · exact .inr h
noncomputable def STF (K : PySem.W.Frag) (H : Hp) (st : Addr) (ns : List Int) (k : Nat) : Prop := ∃ sc, H st = some (.lst [.ref sc, .int (k : Int)]) ∧ SqF K H sc ns
theorem STF.seq {K : PySem.W.Frag} {H H' : Hp} {st sc : Addr} {ns : List Int} {v : V} (h : H st = some (.lst [.ref sc, v])) (hs : SqF K H sc ns) (b : But st H H') : SqF K H' sc ns :=
  hs.imp fun o z => b _ _ z fun e => by
    subst e
    rw [h] at z
    cases z
theorem STF.same {K : PySem.W.Frag} {H H' : Hp} {st : Addr} {ns : List Int} {k : Nat} (h : STF K H st ns k) (e : Same H H') : STF K H' st ns k := by
  obtain ⟨sc, h1, h2⟩ := h
  exact ⟨sc, e _ _ h1, h2.imp fun o z => e _ _ z⟩
theorem STF.new {K : PySem.W.Frag} {H : Hp} {st p : Addr} {ns : List Int} {k : Nat} {o : HO} (h : STF K H st ns k) (hp : H p = none) : STF K (upd H p o) st ns k := h.same (Same.new hp)
theorem STF.start {K : PySem.W.Frag} {H : Hp} {a p : Addr} {ns : List Int} (h : SqF K H a ns) (hp : H p = none) : STF K (upd H p (.lst [.ref a, .int 0])) p ns 0 :=
  ⟨a, upd_same, h.imp fun o z => (Same.new hp) _ _ z⟩
/-- a list of one's own is written -/
theorem STF.put {K : PySem.W.Frag} {H : Hp} {st p : Addr} {ns : List Int} {k : Nat} {xs ys : List V} (h : STF K H st ns k) (hp : H p = some (.lst xs)) (hn : p ≠ st) : STF K (upd H p (.lst ys)) st ns k := by
  obtain ⟨sc, h1, h2⟩ := h
  refine ⟨sc, by rw [upd_ne (Ne.symm hn)]; exact h1, h2.imp fun o z => ?_⟩
  rw [upd_ne]
  · exact z
  · intro e
    subst e
    rw [hp] at z
    cases z
theorem STF.some {K : PySem.W.Frag} {H : Hp} {st : Addr} {ns : List Int} {k : Nat} (h : STF K H st ns k) : ∃ o, H st = some o := by
  obtain ⟨sc, h1, _⟩ := h
  exact ⟨_, h1⟩
theorem But.own {st p : Addr} {H H' : Hp} {o : HO} (b : But st H H') (hp : H p = none) : But st H (upd H' p o) := fun c u e n => by
  rw [upd_ne (ne_of_none e hp)]
  exact b c u e n
noncomputable def spTakeF (K : PySem.W.Frag) : Sp := fun vs H Q _ => ∃ (st : Addr) (ns : List Int) (k : Nat) (most : Int), vs = [.ref st, .int most] ∧ STF K H st ns k ∧ k ≤ 1000000 ∧ ns.length ≤ 63 ∧ 0 < most ∧
  ∀ (r : Int) (H' : Hp), 0 ≤ r → r < most → STF K H' st ns (k + 1) → But st H H' → Q (.int r) H'
end L2

namespace L2
open PySem PySem.Spec PyProof.Rows
/-! ### ints compared, truths compared, tuples compared, all -/
section
variable {X : Cx} {K : PySem.W.Frag}
theorem dInt (i j : Int) : decide (V.int i = V.int j) = decide (i = j) := by
  rw [dec_int, Bool.eq_iff_iff, beq_iff_eq, decide_eq_true_iff]
theorem op_eqI : OpR X (compareOp .Eq) (rI0 fun i j => .bl (decide (i = j))) := op_eq.mono fun x y H Q ⟨i, j, h1, h2, q⟩ => by
  subst h1 h2
  exact ⟨rfl, by rw [dInt]; exact q⟩
theorem op_neI : OpR X (compareOp .NotEq) (rI0 fun i j => .bl (!decide (i = j))) := op_ne.mono fun x y H Q ⟨i, j, h1, h2, q⟩ => by
  subst h1 h2
  exact ⟨rfl, by rw [dInt]; exact q⟩
theorem all_eq (ns ms : List Int) : ((List.range (min ns.length ms.length)).all (fun j => decide (ns.getD j 0 = ms.getD j 0)) && ns.length == ms.length) = decide (ns = ms) := by
  rw [Bool.eq_iff_iff, Bool.and_eq_true, List.all_eq_true, beq_iff_eq, decide_eq_true_iff]
  constructor
  · rintro ⟨h, hl⟩
    refine List.ext_getElem hl fun j h1 h2 => ?_
    have := of_decide_eq_true (h j (List.mem_range.mpr (by omega)))
    rw [List.getD_eq_getElem?_getD, List.getElem?_eq_getElem h1, List.getD_eq_getElem?_getD, List.getElem?_eq_getElem h2] at this
    exact this
  · rintro rfl
    exact ⟨fun j _ => decide_eq_true rfl, rfl⟩
/-- all of a list of truths -/
theorem all_range (bs : List Bool) : ((List.range bs.length).all fun i => bs.getD i true) = bs.all id := by
  rw [Bool.eq_iff_iff, List.all_eq_true, List.all_eq_true]
  constructor
  · intro h b hb
    obtain ⟨i, hi, rfl⟩ := List.getElem_of_mem hb
    have := h i (List.mem_range.mpr hi)
    rwa [List.getD_eq_getElem?_getD, List.getElem?_eq_getElem hi] at this
  · intro h i hi
    have hi' := List.mem_range.mp hi
    rw [List.getD_eq_getElem?_getD, List.getElem?_eq_getElem hi']
    exact h _ (List.getElem_mem hi')
theorem call_allK (h : X.K = K) (hc : X.calm = true) : CallR X (.builtin "all") (fun xs H Q => ∃ (p : Addr) (bs : List Bool), xs = [.ref p] ∧ SqL K H p (bs.map V.bl) ∧ Q (.bl (bs.all id)) H) := by
  subst h
  intro pins s σ H xs us Q I r h
  obtain ⟨p, bs, rfl, hq, q⟩ := h
  obtain ⟨u, rfl, rx⟩ := vals1 r
  cases rx
  obtain ⟨its, rv, pl, hz⟩ := I.list hq
  have len : its.length = bs.length := by rw [← rv.length, List.length_map]
  refine call_all_walk (wpAny_pyIter_list pl.isList ⟨s.heap.objs.size, [s.heap.objs.size, p], [s.heap.objs.size], its.toArray.size, _, _, fun i => bs.getD i true, rfl, Walks.list (A := X.A.in1) (I.ok.hd hc) _ p (Nat.ne_of_lt pl.lt) its.toArray, ⟨⟨_, Heap.get?_push_size _ rfl, rfl, rfl⟩, pl.isList.push _⟩, fun i v s' Q' E' hP hQ => ?_, fun h' tk hk => ?_⟩)
  · have hP' : its[i]? = some v := by simpa using hP
    have hi : i < bs.length := by rw [← len]; exact (List.getElem?_eq_some_iff.mp hP').1
    obtain ⟨c, e1, r1⟩ := rv.get (i := i) (x := V.bl bs[i]) (by rw [List.getElem?_map, List.getElem?_eq_getElem hi]; rfl)
    rw [hP'] at e1
    obtain rfl := Option.some.inj e1
    obtain rfl : v = Value.bool bs[i] := r1
    refine wpAny_truthy_bool ?_
    have hQ' : Q' (bs.getD i true) s' := hQ
    rwa [List.getD_eq_getElem?_getD, List.getElem?_eq_getElem hi] at hQ'
  · refine ⟨.bl (bs.all id), H, I.kept fun b o e => hk b o (fun hm => ?_) (Heap.get?_push_of_some _ e), ?_, q⟩
    · rw [List.mem_singleton.mp hm] at e
      exact Nat.lt_irrefl _ (Heap.lt_size e)
    · show _ = Value.bool _
      rw [List.size_toArray, len, all_range]
end
end L2

namespace L2
open PySem PySem.Spec PyProof.Rows
/-! ### two tuples walked side by side -/
section
variable {prog : Program} {w : World} {A : Around} {E : Value → Shared → Prop} {s : Shared}
end
/-! ### .. as the layer walks it -/
section
variable {X : Cx} {pins : List (Addr × Obj)} {σ : St} {H : Hp} {s : Shared}
theorem Inv.turnedL {t' : Nat} {h' : Heap} {ch : List Addr} (I : Inv X pins σ H s) (k : ∀ b o, b ∉ ch → s.heap.get? b = some o → h'.get? b = some o) (hf : ∀ b ∈ ch, FpOk X pins H b) : Inv X pins σ H { s with heap := h', toks := t' } := by
  have nit : ∀ b u, H b = some u → b ∉ ch := fun b u e z => by rw [(hf b z).1] at e; cases e
  refine I.step (g' := s.gens) (d' := s.drawn) (ch := ch) (fun b hb => ?_) (fun b o _ _ hc e _ => k b o hc e) (fun b o _ _ hc e _ => ⟨o.slots, k b o hc e⟩) (fun _ _ _ _ n => n) (fun b o hc e => ⟨o, k b o hc e⟩) (fun _ _ e => e) (fun _ _ _ e => e) (fun b ps e => ⟨#[], by rw [e]; simp⟩) (fun m hm => ?_) (fun b u e => ?_) I.bare
  · obtain ⟨f0, f1, f2, f3, f4, f5⟩ := hf b hb
    exact ⟨f3, f1, f4, f5⟩
  · obtain ⟨o, es, ep, ho, r⟩ := hm
    exact ⟨o, es, ep, k _ o (fun z => (hf _ z).2.1 rfl) ho, r⟩
  · refine (I.hok b u e).stay (fun c v hc q => k c v ?_ q) (fun _ q => q) fun _ _ q => q
    rcases hc with z | z
    · rw [z]; exact nit b u e
    · exact nit c _ z
end
end L2

namespace L2
open PySem PySem.Spec PyProof.Rows
/-! ### rows of a book in the heap -/
theorem stf_fresh {K : PySem.W.Frag} {H H1 : Hp} {st p : Addr} {ns : List Int} {k : Nat} (S : STF K H1 st ns k) (B : But st H H1) (hp : H1 p = none) : H p = none ∧ p ≠ st := by
  have hn : p ≠ st := fun e => by
    obtain ⟨o, z⟩ := S.some
    rw [← e, hp] at z; cases z
  refine ⟨?_, hn⟩
  cases e : H p with
  | none => rfl
  | some o => rw [B p o e hn] at hp; cases hp
theorem stf_tup {K : PySem.W.Frag} {H H1 : Hp} {st t : Addr} {ns : List Int} {k : Nat} {xs : List V} (S : STF K H st ns k) (B : But st H H1) (h : H t = some (.tup xs)) : H1 t = some (.tup xs) :=
  B _ _ h fun e => by
    obtain ⟨sc, h1, _⟩ := S
    rw [← e, h] at h1; cases h1
/-! ### what the program says of rows -/
noncomputable def mixL (r1 r2 : List Int) (s : Nat) : List Int := (List.range r1.length).map fun k => if hasB s k = true then r1.getD k 0 else r2.getD k 0
noncomputable def alikeL (r1 r2 : List Int) (s : Nat) : Bool := ((colsN s).map fun c => decide (r1.getD c 0 = r2.getD c 0)).all id
theorem getD_int {r : List Int} {k : Nat} (h : k < r.length) : (r.map V.int)[k]? = some (V.int (r.getD k 0)) := by
  rw [List.getElem?_map, List.getElem?_eq_getElem h, List.getD_eq_getElem?_getD, List.getElem?_eq_getElem h]; rfl
noncomputable def spAlike (K : PySem.W.Frag) : Sp := fun vs H Q _ => ∃ (a b : Addr) (r1 r2 : List Int) (s : Nat), vs = [.ref a, .ref b, vN s] ∧ SqT K H a (r1.map V.int) ∧ SqT K H b (r2.map V.int) ∧ s < 2 ^ 20 ∧ (∀ c ∈ colsN s, c < r1.length ∧ c < r2.length) ∧ ∀ H', Same H H' → Q (.bl (alikeL r1 r2 s)) H'
noncomputable def spMixed (K : PySem.W.Frag) : Sp := fun vs H Q _ => ∃ (a b : Addr) (r1 r2 : List Int) (s : Nat), vs = [.ref a, .ref b, vN s] ∧ SqT K H a (r1.map V.int) ∧ SqT K H b (r2.map V.int) ∧ r1.length = r2.length ∧ r1.length ≤ 20 ∧
  ∀ p H', Same H H' → H p = none → H' p = some (.tup ((mixL r1 r2 s).map V.int)) → Q (.ref p) H'
theorem Same.tupS {K : PySem.W.Frag} {H H' : Hp} {a : Addr} {xs : List V} (e : Same H H') (h : SqT K H a xs) : SqT K H' a xs := by
  rcases h with (h | ⟨o, h⟩) | h
  · exact .inl (.inl (e _ _ h))
  · exact .inl (.inr ⟨o, e _ _ h⟩)
  · exact .inr h
end L2

namespace L2
open PySem PySem.Spec PyProof.Rows

/-! ### lists of pairs as tables -/
section
variable {κ : Type} [DecidableEq κ]
end


/-! ### a tracked dict, its keys ints and texts or tuples of these -/
section
variable {P : Program} {w : World} {H : Hp} {h : Heap} {a : Addr}
end

section
variable {X : Cx} {pins : List (Addr × Obj)} {σ : St} {H : Hp} {s : Shared} {a : Addr} {y v : V} {u r : Value} {o : Option V} {A : Around} {E : Value → Shared → Prop}

theorem Inv.big (I : Inv X pins σ H s) : sysModules < s.heap.objs.size := by
  have h : mainGlobals < s.heap.objs.size := (I.mod.glob.keeps I.bk).lt
  exact Nat.lt_trans (by decide) h

end

section
variable {X : Cx} {pins : List (Addr × Obj)} {σ : St} {H : Hp} {s : Shared} {a : Addr} {kvs : List (Key × V)} {k : Key} {u : Value} {A : Around} {E : Value → Shared → Prop}
end


/-! ### readings and rules -/
section
variable {X : Cx} {o i e value : Expr} {pos pos' tpos : Pos} {td ty tv : TE}
end


/-! ### displays -/
theorem dt_empty {P : Program} {w : World} {H : Hp} (h : Heap) (hb : sysModules < h.objs.size) : ObjOk P w H (h.push { cls := .type "dict", data := .dict #[] }) h.objs.size (.dT []) :=
  ⟨Nat.zero_le _, beq_eq_false_iff_ne.mpr (Ne.symm (Nat.ne_of_lt hb)), [], .nil, _, #[], 0, Heap.get?_push_size _ rfl, ⟨rfl, rfl, rfl⟩, rfl, rfl, List.nodup_nil⟩
section
variable {X : Cx} {pos : Pos}
end

/-- the pairs of a display, from the left -/
noncomputable def tPairs : List (TE × TE) → St → Hp → (List (V × V) → Hp → Prop) → Prop
  | [], _, H, Q => Q [] H
  | (tk, tv) :: r, σ, H, Q => tk σ H fun x H1 => tv σ H1 fun y H2 => tPairs r σ H2 fun ps H3 => Q ((x, y) :: ps) H3
noncomputable abbrev VV : List (V × V) → List (Value × Value) → Prop := Paired fun p q => RelV p.1 q.1 ∧ RelV p.2 q.2
noncomputable def PPs (X : Cx) (pos : Pos) (keys : List (Option Expr)) (values : List Expr) (trs : List (TE × TE)) : Prop :=
  ∀ (pins : List (Addr × Obj)) (s : Shared) (σ : St) (H : Hp) (Q : List (V × V) → Hp → Prop), Inv X pins σ H s → tPairs trs σ H Q →
    wpAny (model X.prog X.w) X.A (evalPairs (pairTrees keys values X.env pos)) (fun vs s' => ∃ ps H', Inv X pins σ H' s' ∧ VV ps vs ∧ Q ps H') X.xe s
theorem pps_nil {X : Cx} {pos : Pos} : PPs X pos [] [] [] := fun pins s σ H Q I h => pairTrees_nil_walk ⟨[], H, I, .nil, h⟩
theorem pps_cons {X : Cx} {pos : Pos} {k v : Expr} {ks : List (Option Expr)} {vs : List Expr} {tk tv : TE} {trs : List (TE × TE)} (hk : PE X k tk) (hv : PE X v tv) (hr : PPs X pos ks vs trs) :
    PPs X pos (some k :: ks) (v :: vs) ((tk, tv) :: trs) := fun pins s σ H Q I h =>
  pairTrees_cons_walk (thn (hk pins s σ H _ I h) fun u s1 ⟨x, H1, I1, rx, q1⟩ => thn (hv pins s1 σ H1 _ I1 q1) fun w2 s2 ⟨y, H2, I2, ry, q2⟩ =>
    thn (hr pins s2 σ H2 _ I2 q2) fun ws s3 ⟨ps, H3, I3, rel, q3⟩ => ⟨(x, y) :: ps, H3, I3, .cons ⟨rx, ry⟩ rel, q3⟩)

/-! ### methods -/
structure M2 (X : Cx) (o : Expr) (m : Str) (apos : Pos) (e f : Expr) (cpos : Pos) : Prop where
  base : attributeBase o m X.env (eval o X.env) = eval o X.env
  few : ((backTo cpos (starEach [e, f] X.env)).all (fun x => !x.1) && (backToKw cpos (keywordEach [] X.env)).all (fun x => x.1.isSome)
    && decide (([e, f] : List Expr).length + ([] : List Keyword).length + (if ([] : List Keyword).isEmpty then 0 else 1) < 30)) = true
  line : (apos.endLine == cpos.line) = true
  trees : backTo cpos (starEach [e, f] X.env) = [(false, eval e X.env), (false, eval f X.env)]

section
variable {X : Cx} {pins : List (Addr × Obj)} {σ : St} {H : Hp} {s : Shared} {a : Addr} {y d : V} {u r : Value} {o : Option V} {A : Around} {E : Value → Shared → Prop}
end

section
variable {X : Cx} {o e f : Expr} {apos cpos : Pos} {td ty tx : TE}
end

/-! ### dict(d): a copy -/
section
variable {X : Cx} {pins : List (Addr × Obj)} {σ : St} {H : Hp} {s : Shared} {a : Addr} {kvs : List (Key × V)} {A : Around} {E : Value → Shared → Prop}
end


section
variable {X : Cx} {pins : List (Addr × Obj)} {σ : St} {H : Hp} {s : Shared} {a : Addr} {y : V} {u : Value} {A : Around} {E : Value → Shared → Prop}
end
end L2

namespace L2
open PySem PySem.Spec PyProof.Rows
/-! ### d.setdefault(k, x), the keys tuples -/
section
variable {prog : Program} {w : World} {A : Around} {E : Value → Shared → Prop} {s : Shared} {κ : Type} [DecidableEq κ] {kd : HeapKind prog w κ}
end
section
variable {X : Cx} {o e f : Expr} {apos cpos : Pos} {td ty tx : TE}
end
end L2

namespace L2
open PySem PySem.Spec PyProof.Rows
/-! ### for v in d.values(), whatever the keys -/
section
variable {prog : Program} {w : World} {A : Around} {E : Value → Shared → Prop} {s : Shared}
end
section
variable {X : Cx} {pins : List (Addr × Obj)} {σ : St} {H : Hp} {s : Shared}
/-! ### the forms one uses -/
end
end L2

namespace L2
open PySem PySem.Spec PyProof.Rows
/-! ### dict of a list of pairs, the keys tuples -/
section
variable {prog : Program} {w : World} {A : Around} {E : Value → Shared → Prop} {s : Shared}
end
end L2

namespace L2
open PySem PySem.Spec PyProof.Rows
/-! ### dict of a list of pairs: the loop, the call -/
section
variable {X : Cx} {pins : List (Addr × Obj)} {σ : St} {H : Hp}
end
end L2

namespace L2
open PySem PySem.Spec PyProof.Rows
/-! ### (x,) * n -/
theorem noMulT : fillsNumberSlot (.type "tuple") "mul" = pure false := by first | (rw [fillsNumberSlot_type]; kernel_rfl) | (unfold fillsNumberSlot; kernel_rfl) | kernel_rfl
theorem repT : seqRepeat? (.type "tuple") = pure (some (.builtin "tuple.__mul__")) := by first | (unfold seqRepeat?; kernel_rfl) | kernel_rfl
theorem rmulT (a : Int) (t : Tok) (l : Addr) (its : Array Value) (n : Nat) (sl : Array (Option Value)) (dd : Option Addr) :
    Meets (Builtin.«int.__rmul__» ⟨[.int a t, .ref l], []⟩) (fun _ R s => s.heap.get? l = some { cls := .type "tuple", dict := dd, data := .seq its n, slots := sl } ∧ R (.ok (.ret .notImplemented)) s) :=
  .of_wp fun prog w A R s h => by
    obtain ⟨hp, g, d, tk, os⟩ := s; obtain ⟨hl, h⟩ := h
    wp_walk
    exact ⟨_, rfl, h⟩
theorem mulT1 (l : Addr) (its : Array Value) (n : Nat) (u : Tok) (sl : Array (Option Value)) (dd : Option Addr) (hne : its.isEmpty = false) :
    Meets (Builtin.«tuple.__mul__» ⟨[.ref l, .int 1 u], []⟩) (fun _ R s => s.heap.get? l = some { cls := .type "tuple", dict := dd, data := .seq its n, slots := sl } ∧ R (.ok (.ret (.ref l))) s) :=
  .of_wp fun prog w A R s h => by
    obtain ⟨hp, g, d, tk, os⟩ := s; obtain ⟨hl, h⟩ := h
    have f1 := AutoSeq1.idx_int
    wp_walk using wpAny_loadPart' hl
    exact ⟨_, rfl, h⟩
theorem mulTn (l : Addr) (its : Array Value) (n : Nat) (x : Int) (u : Tok) (sl : Array (Option Value)) (dd : Option Addr) (hne : its.isEmpty = false) (h0 : (decide (x < -(2 ^ 63)) || decide (x ≥ 2 ^ 63)) = false) (h1 : (x == 1) = false) (h2 : decide (x ≤ 0) = false)
    (h3 : ¬ (its.size : Int) * x > (2 ^ 63 - 1) / 8) (h4 : Builtin.Tuple.tupleTooMany ((its.size : Int) * x) = false) (h5 : (List.foldl (fun x1 x2 => x1 ++ x2) #[] (List.replicate x.toNat its)).size ≤ sizeLine) :
    Meets (Builtin.«tuple.__mul__» ⟨[.ref l, .int x u], []⟩) (fun _ R s => s.heap.get? l = some { cls := .type "tuple", dict := dd, data := .seq its n, slots := sl } ∧ R (.ok (.ret (.ref s.heap.objs.size))) { s with heap := s.heap.push { cls := .type "tuple", data := .seq (List.foldl (fun x1 x2 => x1 ++ x2) #[] (List.replicate x.toNat its)) } }) :=
  .of_wp fun prog w A R s h => by
    obtain ⟨hp, g, d, tk, os⟩ := s; obtain ⟨hl, h⟩ := h
    have f1 := AutoSeq1.idx_int
    wp_walk using wpAny_loadPart' hl
    refine wpAny_ite_false (decide_eq_false (by rw [h0]; exact Bool.false_ne_true)) ?_
    wp_walk using wpAny_loadPart' hl
    refine wpAny_ite_false (decide_eq_false h3) ?_
    wp_walk using wpAny_loadPart' hl
    exact ⟨_, rfl, h⟩
/-- (x,) * k, 1 ≤ k -/
noncomputable def rRepT : R2 := fun x y H Q => ∃ (l : Addr) (v : V) (k : Nat), x = .ref l ∧ y = vN k ∧ H l = some (.tup [v]) ∧ 1 ≤ k ∧ k ≤ 1000 ∧ (k = 1 → Q (.ref l) H) ∧ (2 ≤ k → ∀ p, H p = none → Q (.ref p) (upd H p (.tup (List.replicate k v))))
theorem foldl_one (u : Value) : ∀ (k : Nat), List.foldl (fun x1 x2 => x1 ++ x2) #[] (List.replicate k #[u]) = (List.replicate k u).toArray := fun k => by
  have h := foldl_rep [u] k []
  rw [List.nil_append] at h
  refine h.trans ?_
  congr 1
  induction k with
  | zero => rfl
  | succ k ih => rw [List.replicate_succ, List.flatten_cons, ih (by
      have h := foldl_rep [u] k []
      rw [List.nil_append] at h
      exact h), List.replicate_succ]; rfl
theorem vals_rep {v : V} {u : Value} (r : RelV v u) : ∀ k : Nat, Vals (List.replicate k v) (List.replicate k u)
  | 0 => .nil
  | k + 1 => by rw [List.replicate_succ, List.replicate_succ]; exact .cons r (vals_rep r k)
theorem op_repTI {X : Cx} (i : Int) : OpR X (binaryOp .Mult) (fun x y H Q => ∃ (l : Addr) (v : V), x = .ref l ∧ y = .int i ∧ H l = some (.tup [v]) ∧ 1 ≤ i ∧ i ≤ 1000 ∧ (i = 1 → Q (.ref l) H) ∧ (2 ≤ i → ∀ p, H p = none → Q (.ref p) (upd H p (.tup (List.replicate i.toNat v))))) := by
  intro pins s σ H x y v u Q I rx ry h
  obtain ⟨l, w, rfl, rfl, hH, h1, h2, q1, q2⟩ := h
  cases rx
  obtain ⟨t, rfl⟩ := ry
  obtain ⟨_, its, rv, ⟨cls, dd, data, sl⟩, e, hc, n, hd⟩ := (show ObjOk X.prog X.w H s.heap l (.tup [w]) from I.hok l _ hH)
  simp only at hc hd
  subst hc hd
  obtain ⟨c, rfl, rc⟩ := vals1 rv
  refine wpAny_binaryOp_repeat_ref (T := "tuple") (U := "int") (by decide) ⟨_, e, rfl⟩ (fun s' => typeIs_int s' i t) noMulT F.fills_int_mul F.slot_int_rmul repT F.slot_int_index.lookup
    (call_meets F.slot_int_rmul (typeIs_int s i t) F.entry_int_rmul (F.args_int_rmul_2 _ _) (rmulT i t l [c].toArray n sl dd) ⟨e, rfl, ⟨_, e, rfl⟩, ?_⟩)
  by_cases hi : i = 1
  · subst hi
    exact call_meets F.slot_tuple_mul ⟨_, e, rfl⟩ F.entry_tuple_mul (F.args_tuple_mul_2 _ _) (mulT1 l [c].toArray n t sl dd rfl) ⟨e, ⟨.ref l, H, I, rfl, q1 rfl⟩⟩
  · have hf := foldl_one c i.toNat
    have hsz : (1000 : Nat) ≤ sizeLine := by rw [sizeLine_eq]; decide
    refine call_meets F.slot_tuple_mul ⟨_, e, rfl⟩ F.entry_tuple_mul (F.args_tuple_mul_2 _ _) (mulTn l [c].toArray n i t sl dd rfl (by rw [Bool.or_eq_false_iff, decide_eq_false_iff_not, decide_eq_false_iff_not]; omega) (by rw [beq_eq_false_iff_ne]; exact hi) (by rw [decide_eq_false_iff_not]; omega)
      (by rw [List.size_toArray]; show ¬ ((1 : Nat) : Int) * i > _; omega) (by unfold Builtin.Tuple.tupleTooMany; rw [decide_eq_false_iff_not, List.size_toArray]; show ¬ ((1 : Nat) : Int) * i > _; omega) (by rw [show ([c].toArray : Array Value) = #[c] from rfl, hf, List.size_toArray, List.length_replicate]; omega)) ⟨e, ?_⟩
    rw [show ([c].toArray : Array Value) = #[c] from rfl, hf]
    refine ⟨.ref s.heap.objs.size, _, I.laid (t' := s.toks) (fun b o eb => Heap.get?_push_of_some _ eb) (Nat.le_refl _) (show ObjOk X.prog X.w _ _ _ (.tup (List.replicate i.toNat w)) from ⟨by rw [List.length_replicate]; omega, _, vals_rep rc i.toNat, ⟨_, Heap.get?_push_size _ rfl, rfl, _, rfl⟩⟩), rfl, q2 (by omega) _ I.fresh⟩
theorem op_repT {X : Cx} : OpR X (binaryOp .Mult) rRepT := fun pins s σ H x y v u Q I rx ry ⟨l, w, k, h1, h2, h3, h4, h5, q1, q2⟩ =>
  op_repTI (k : Int) pins s σ H x y v u Q I rx ry ⟨l, w, h1, h2, h3, by omega, by omega, fun e => q1 (by omega), fun e p hp => by
    have := q2 (by omega) p hp
    rw [Int.toNat_natCast]
    exact this⟩
end L2

namespace L2
open PySem PySem.Spec PyProof.Rows
/-! ### books: rows with their places, groups of rows -/
noncomputable abbrev RW := Addr × List Int
noncomputable def refsOf (rs : List RW) : List V := rs.map fun rw => V.ref rw.1
/-! ### what a group is -/
end L2

namespace L2
open PySem PySem.Spec PyProof.Rows
/-! ### the promises of the program's own defs about books -/
noncomputable def spNoughts : Sp := fun vs H Q _ => ∃ m : Nat, vs = [vN m] ∧ 1 ≤ m ∧ m ≤ 20 ∧ ∀ p H', Same H H' → H p = none → H' p = some (.tup ((List.replicate m (0 : Int)).map V.int)) → Q (.ref p) H'
end L2

namespace L2
open PySem PySem.Spec PyProof.Rows
/-! ### rows alike and mixed: the mathematics -/
/-! ### the promises -/
/-- a rule in the heap: its word (settle or not), its sets -/
noncomputable def wordS (st : Bool) : Str := if st = true then "settle" else "deal"
noncomputable def RuleAt (H : Hp) (r : Addr) (st : Bool) (x y : Nat) : Prop := H r = some (.tup [.str (wordS st), vN x, vN y])
structure Rl where
  r : Addr
  st : Bool
  x : Nat
  y : Nat
end L2

namespace L2
open PySem PySem.Spec PyProof.Rows
/-! ### the book of a set -/
end L2

namespace L2
open PySem PySem.Spec PyProof.Rows
/-! ### tuples in lists, lists of lists compared -/
section
variable {X : Cx} {K : PySem.W.Frag} {pins : List (Addr × Obj)} {σ : St} {H : Hp} {s : Shared}
theorem map_int_inj : ∀ {a b : List Int}, a.map V.int = b.map V.int → a = b
  | [], [], _ => rfl
  | [], _ :: _, h => by cases h
  | _ :: _, [], h => by cases h
  | x :: a, y :: b, h => by
    have h1 : V.int x = V.int y := (List.cons.inj h).1
    rw [V.int.inj h1, map_int_inj (List.cons.inj h).2]
theorem eqAt_tups {A : Around} {a b : Addr} {ns ms : List Int} (hu : A.units < cLine) (I : Inv X pins σ H s) (ha : H a = some (.tup (ns.map V.int))) (hb : H b = some (.tup (ms.map V.int))) : SeqAt.EqAt A s (.ref a) (.ref b) (decide (ns = ms)) := by
  by_cases hab : a = b
  · subst hab
    rw [ha] at hb
    have e : ns = ms := map_int_inj (HO.tup.inj (Option.some.inj hb))
    rw [decide_eq_true e]
    exact SeqAt.EqAt.same _
  · obtain ⟨its, rv, pl, _⟩ := I.tuple (SqT.of ha)
    obtain ⟨its', rv', pl', _⟩ := I.tuple (SqT.of hb)
    have l1 : its.length = ns.length := by rw [← rv.length, List.length_map]
    have l2 : its'.length = ms.length := by rw [← rv'.length, List.length_map]
    have r := SeqAt.RcAt.tuples (A := A) (s := s) (e := fun j => decide (ns.getD j 0 = ms.getD j 0)) pl pl' hu (fun j j1 j2 => by
      have j1' : j < ns.length := by rw [← l1]; simpa using j1
      have j2' : j < ms.length := by rw [← l2]; simpa using j2
      obtain ⟨c, hc, rc⟩ := rv.get (i := j) (x := V.int ns[j]) (by rw [List.getElem?_map, List.getElem?_eq_getElem j1']; rfl)
      obtain ⟨d, hd, rd⟩ := rv'.get (i := j) (x := V.int ms[j]) (by rw [List.getElem?_map, List.getElem?_eq_getElem j2']; rfl)
      have ec : its.toArray[j] = c := by
        rw [List.getElem?_eq_getElem (by simpa using j1)] at hc
        simpa using hc
      have ed : its'.toArray[j] = d := by
        rw [List.getElem?_eq_getElem (by simpa using j2)] at hd
        simpa using hd
      have q := eqAt_V (A := A.in1) (s := s) rc rd rfl rfl
      rw [ec, ed]
      have e2 : eqV (V.int ns[j]) (V.int ms[j]) = decide (ns.getD j 0 = ms.getD j 0) := by
        rw [List.getD_eq_getElem?_getD, List.getElem?_eq_getElem j1', List.getD_eq_getElem?_getD, List.getElem?_eq_getElem j2']
        show (ns[j] == ms[j]) = decide (ns[j] = ms[j])
        rw [Bool.eq_iff_iff, beq_iff_eq, decide_eq_true_iff]
      rw [← e2]
      exact q)
    rw [List.size_toArray, List.size_toArray, l1, l2, all_eq] at r
    exact SeqAt.EqAt.of_refs hab r
theorem vals_refs : ∀ {as : List Addr} {us : List Value}, Vals (as.map V.ref) us → us = as.map Value.ref
  | [], _, .nil => rfl
  | a :: as, _, .cons r t => by
    obtain rfl := (show _ = Value.ref a from r)
    rw [List.map_cons, vals_refs t]
end
end L2

namespace L2
open PySem PySem.Spec PyProof.Rows
/-! ### k11: what two rows show -/
end L2

namespace L2
open PySem PySem.Spec PyProof.Rows
/-! ### paths joined -/
section
variable {X : Cx} {st : Stmt} {rest : List Stmt} {t u : TS}
theorem pss_cut (P : St → Hp → Prop) (h1 : PS X st t) (h2 : PSs X rest u) : PSs X (st :: rest) (fun D σ H => t { D with nx := P } σ H ∧ ∀ σ' H', P σ' H' → u D σ' H') := by
  intro pins s σ H D I h
  refine wpAny_execs_cons (thn (h1 pins s σ H { D with nx := P } I h.1) fun f s1 q => ?_)
  cases f with
  | next =>
    obtain ⟨σ', H', I', q⟩ := q
    exact h2 pins s1 σ' H' D I' (h.2 σ' H' q)
  | ret v => exact q
  | brk => exact q
  | cont => exact q
end
/-! ### truths told one by one -/
end L2

namespace L2
open PySem PySem.Spec PyProof.Rows
/-! ### for i, x in enumerate(a list) -/
section
variable {X : Cx} {pins : List (Addr × Obj)} {σ : St} {H : Hp} {s : Shared}
noncomputable def Itn (K : PySem.W.Frag) (l : Addr) : It :=
  ⟨fun i H => ∃ xs x, SqL K H l xs ∧ xs[i]? = some x,
   fun i H v H' => ∃ t x, v = .ref t ∧ H t = none ∧ (∀ xs, SqL K H l xs → xs[i]? = some x) ∧ H' = upd H t (.tup [.int (i : Int), x]),
   fun i H => ∃ xs, SqL K H l xs ∧ xs.length ≤ i⟩
noncomputable def tnN (e it l : Addr) (i : Nat) (h : Heap) : Prop := (∃ old, IsEnum h e it (i : Int) old) ∧ h.IsListIter it l i
theorem turn_enum {P : Program} {w : World} {K : PySem.W.Frag} {es : List Expr} {n : Nat} {tp : Pos} {e it l : Addr} (hne : e ≠ it) : Turn P w K (.Tuple es n tp) (Itn K l) [e, it] e (tnN e it l) where
  mem := by simp
  obj := fun i h st c hc => by
    obtain ⟨⟨old, hE⟩, ⟨oa, ea, _, da⟩⟩ := st
    simp only [List.mem_cons, List.not_mem_nil, or_false] at hc
    rcases hc with rfl | rfl
    · exact ⟨_, hE, fun v r => by cases r⟩
    · exact ⟨_, ea, fun v r => by rw [da] at r; cases r⟩
  keep := fun i h h' st k => by
    obtain ⟨⟨old, hE⟩, ha⟩ := st
    exact ⟨⟨old, k e (by simp) _ hE⟩, ha.at fun o z => k it (by simp) o z⟩
  item := by
    intro X hP hw hK hc i pins s σ H E I hf st hg
    subst hP hw hK
    obtain ⟨xs, x, hx, ex⟩ := hg
    obtain ⟨⟨old, hE⟩, ha⟩ := st
    obtain ⟨i1, r1, t1, _⟩ := I.list hx
    obtain ⟨x', ex', rx⟩ := r1.get ex
    refine wpAny_pyNext_enum_item hE ha t1.isList (x := x') (by simpa using ex') hne fun g c1 c2 c3 c4 c5 => ⟨_, rfl, ?_⟩
    refine wpAny_letOwnedTupleGo_enum c1 fun g' z' k' => ?_
    have nT : H s.heap.objs.size = none := I.fresh
    have lz : s.heap.objs.size ≠ e := Nat.ne_of_gt (Heap.lt_size hE)
    have IA : Inv X pins σ (upd H s.heap.objs.size (.tup [.int (i : Int), x])) { s with heap := s.heap.push { cls := .type "tuple", data := .seq #[.int (i : Int) s.toks, x'] }, toks := s.toks + 1 } :=
      I.laid (t' := s.toks + 1) (fun c o z => Heap.get?_push_of_some _ z) (Nat.le_refl _) (show ObjOk X.prog X.w _ _ _ (.tup [.int (i : Int), x]) from ⟨by show 2 ≤ sizeLine; decide, [.int (i : Int) s.toks, x'], .cons ⟨_, rfl⟩ (.cons rx .nil), ⟨_, Heap.get?_push_size _ rfl, rfl, _, rfl⟩⟩)
    have fp : ∀ c ∈ [e, it], FpOk X pins (upd H s.heap.objs.size (.tup [.int (i : Int), x])) c := fun c hc' => by
      obtain ⟨f0, f1, f2, f3, f4, f5⟩ := hf c hc'
      refine ⟨?_, f1, f2, f3, f4, f5⟩
      rw [upd_ne]
      · exact f0
      · have lt : c < s.heap.objs.size := by
          simp only [List.mem_cons, List.not_mem_nil, or_false] at hc'
          rcases hc' with rfl | rfl
          · exact Heap.lt_size hE
          · obtain ⟨_, z, _⟩ := ha; exact Heap.lt_size z
        exact Nat.ne_of_lt lt
    have IB : Inv X pins σ (upd H s.heap.objs.size (.tup [.int (i : Int), x])) { s with heap := g', toks := s.toks + 1 } := by
      refine IA.turnedL (t' := s.toks + 1) (h' := g') (fun c o hc' z => ?_) fp
      simp only [List.mem_cons, List.not_mem_nil, or_false, not_or] at hc'
      refine k'.extBut _ _ hc'.1 ?_
      by_cases hcT : c = s.heap.objs.size
      · subst hcT
        have e1 : (s.heap.push { cls := .type "tuple", data := .seq #[.int (i : Int) s.toks, x'] }).get? s.heap.objs.size = some { cls := .type "tuple", data := .seq #[.int (i : Int) s.toks, x'] } := Heap.get?_push_size _ rfl
        have e2 := e1.symm.trans z
        rw [← Option.some.inj e2]
        exact c3
      · exact c5 c o hc'.1 hc'.2 (by
          have e1 : (s.heap.push { cls := .type "tuple", data := .seq #[.int (i : Int) s.toks, x'] }).get? c = s.heap.get? c := Heap.get?_push_ne _ _ _ hcT
          rw [← e1]; exact z)
    refine ⟨.ref s.heap.objs.size, _, IB, rfl, ⟨_, x, rfl, nT, fun zs hz => by rw [I.list_inj hz hx]; exact ex, rfl⟩, ⟨⟨x', ?_⟩, c2.extBut k'.extBut hne.symm⟩, fun c hc' => (fp c hc').1⟩
    have ei : ((i + 1 : Nat) : Int) = (i : Int) + 1 := Int.natCast_succ i
    rw [ei]
    exact z'
  done := by
    intro X hP hw hK hc i pins s σ H E I hf st hg
    subst hP hw hK
    obtain ⟨xs, hx, hl⟩ := hg
    obtain ⟨⟨old, hE⟩, ha⟩ := st
    obtain ⟨i1, r1, t1, _⟩ := I.list hx
    have len := r1.length
    refine wpAny_pyNext_enum_end (I.ok.hd hc) hE ha t1.isList (by simp; omega) fun g hk => ⟨rfl, ?_⟩
    refine I.turnedL (t' := s.toks) (h' := g) (ch := [e, it]) (fun c o hc' z => ?_) hf
    simp only [List.mem_cons, List.not_mem_nil, or_false, not_or] at hc'
    exact hk c o hc'.2 z
  self := fun _ _ _ _ _ st h => by
    obtain ⟨⟨old, hE⟩, _⟩ := st
    exact wpAny_pyIter_enum hE h
noncomputable def iEnum (K : PySem.W.Frag) (ta : TA) : TI := fun σ H R => ta σ H fun vs H1 => ∃ (l : Addr) (xs : List V), vs = [.ref l] ∧ SqL K H1 l xs ∧ R (Itn K l) H1
theorem pi_enum {K : PySem.W.Frag} {es : List Expr} {n : Nat} {tp : Pos} {e1 : Expr} {ta : TA} {np pos : Pos} (hK : X.K = K) (hg : Gl X "enumerate") (hm : X.mg "enumerate" = none) (ha : PA X [e1] ta)
    (hs : starEach [e1] X.env = [(false, eval e1 X.env)] := by rfl) :
    PI X (.Tuple es n tp) (.Call (.Name "enumerate" np) [e1] [] pos) (iEnum K ta) := by
  subst hK
  intro pins s σ H R I h
  refine Call_ (ld_blt I hg hm boot_enumerate (PyProof.Rows.callWith_type1 (thn (ha pos pins s σ H _ I h) fun us s1 ⟨vs, H1, I1, r1, q1⟩ => ?_) (by rw [hs]; rfl) (by rfl)))
  obtain ⟨l, xs, rfl, hl, r⟩ := q1
  obtain ⟨u1, rfl, ru1⟩ := r1.one
  cases ru1
  obtain ⟨i1, v1, t1, _⟩ := I1.list hl
  refine call_enumerate_list t1.isList fun g hE hi hz hk => ?_
  refine wpAny_pyIter_enum hE ⟨s1.heap.objs.size + 1, [s1.heap.objs.size + 1, s1.heap.objs.size], tnN (s1.heap.objs.size + 1) s1.heap.objs.size l, Itn X.K l, H1, rfl, I1.kept (t' := s1.toks) hk, turn_enum (Nat.succ_ne_self _), ⟨⟨_, hE⟩, hi⟩, fun c hc => ?_, r⟩
  have lc : s1.heap.objs.size ≤ c := by
    simp only [List.mem_cons, List.not_mem_nil, or_false] at hc
    rcases hc with rfl | rfl <;> omega
  exact I1.fpOk lc (I1.hok.fresh lc)
theorem for_enum {K : PySem.W.Frag} {l : Addr} {xs : List V} {g : TG} {tb : TS} {D : Ends} {σ : St} {H : Hp} (Pv : Nat → St → Hp → Prop) (h0 : Pv 0 σ H) (hl : ∀ i σ H, i ≤ xs.length → Pv i σ H → SqL K H l xs)
    (hs : ∀ i x σ H t, xs[i]? = some x → Pv i σ H → H t = none → g (.ref t) σ (upd H t (.tup [.int (i : Int), x])) fun σ2 H2 => tb { D with nx := Pv (i + 1), ct := Pv (i + 1), bk := D.nx } σ2 H2) (hd : ∀ σ H, Pv xs.length σ H → D.nx σ H) :
    ∃ W : Nat → Nat → St → Hp → Prop, (∃ m, W 0 m σ H) ∧ ∀ i m σ H, W i m σ H →
      ((Itn K l).stop i H ∧ D.nx σ H) ∨ ((Itn K l).go i H ∧ ∃ N : St → Hp → Prop, (∀ σ' H', N σ' H' → ∃ m', m' < m ∧ W (i + 1) m' σ' H') ∧ ∀ x H', (Itn K l).yld i H x H' → g x σ H' fun σ2 H2 => tb { D with nx := N, ct := N, bk := D.nx } σ2 H2) := by
  refine ⟨fun i m σ H => m = xs.length - i ∧ i ≤ xs.length ∧ Pv i σ H, ⟨xs.length, by simp, Nat.zero_le _, h0⟩, ?_⟩
  rintro i m σ H ⟨rfl, hi, pv⟩
  have h1 := hl i σ H hi pv
  by_cases lt : i < xs.length
  · refine .inr ⟨⟨xs, xs[i], h1, by simp [lt]⟩, Pv (i + 1), fun σ' H' p' => ⟨xs.length - (i + 1), by omega, rfl, lt, p'⟩, fun v H' yv => ?_⟩
    obtain ⟨t, x, rfl, nt, a3, rfl⟩ := yv
    exact hs i x σ H t (a3 xs h1) pv nt
  · obtain rfl : i = xs.length := by omega
    exact .inl ⟨⟨xs, h1, Nat.le_refl _⟩, hd σ H pv⟩
end
end L2

namespace L2
open PySem PySem.Spec PyProof.Rows
/-! ### == and != of values told as data -/
mutual
inductive DV (K : PySem.W.Frag) (H : Hp) : V → PyData → Prop
  | non : DV K H .non .none
  | bl (b : Bool) : DV K H (.bl b) (.bool b)
  | int (i : Int) : DV K H (.int i) (.int i)
  | str (x : Str) : DV K H (.str x) (.str x)
  | lst {a : Addr} {xs : List V} {ds : List PyData} : SqL K H a xs → DVs K H xs ds → DV K H (.ref a) (.list ds)
  | tup {a : Addr} {xs : List V} {ds : List PyData} : SqT K H a xs → DVs K H xs ds → DV K H (.ref a) (.tuple ds)
inductive DVs (K : PySem.W.Frag) (H : Hp) : List V → List PyData → Prop
  | nil : DVs K H [] []
  | cons {x : V} {xs : List V} {d : PyData} {ds : List PyData} : DV K H x d → DVs K H xs ds → DVs K H (x :: xs) (d :: ds)
end
section
variable {X : Cx} {K : PySem.W.Frag} {pins : List (Addr × Obj)} {σ : St} {H : Hp} {s : Shared}
mutual
theorem DV.reads (I : Inv X pins σ H s) : ∀ {v : V} {d : PyData} {u : Value}, DV X.K H v d → RelV v u → ∃ as, Reads s.heap u d as
  | _, _, _, .non, r => by obtain rfl := (show _ = Value.none from r); exact ⟨_, Reads.none⟩
  | _, _, _, .bl b, r => by obtain rfl := (show _ = Value.bool b from r); exact ⟨_, Reads.bool b⟩
  | _, _, _, .int i, r => by obtain ⟨t, rfl⟩ := r; exact ⟨_, .int i t⟩
  | _, _, _, .str x, r => by obtain ⟨t, rfl⟩ := r; exact ⟨_, .str x t⟩
  | _, _, _, .lst (a := a) hx hs, r => by
    obtain rfl := (show _ = Value.ref a from r)
    obtain ⟨its, rv, pl, _⟩ := I.list hx
    obtain ⟨as, ra⟩ := DVs.reads I hs rv
    obtain ⟨o, ho, hc, n, hd⟩ := pl.isList
    exact ⟨_, .list ho hc hd ra⟩
  | _, _, _, .tup (a := a) hx hs, r => by
    obtain rfl := (show _ = Value.ref a from r)
    obtain ⟨its, rv, pl, _⟩ := I.tuple hx
    obtain ⟨as, ra⟩ := DVs.reads I hs rv
    obtain ⟨o, ho, hc, n, hd⟩ := pl
    exact ⟨_, .tuple ho hc hd ra⟩
theorem DVs.reads (I : Inv X pins σ H s) : ∀ {vs : List V} {ds : List PyData} {us : List Value}, DVs X.K H vs ds → Vals vs us → ∃ as, ReadsAll s.heap us ds as
  | _, _, _, .nil, .nil => ⟨_, .nil⟩
  | _, _, _, .cons h hs, .cons r rs => by
    obtain ⟨as, ra⟩ := DV.reads I h r
    obtain ⟨bs, rb⟩ := DVs.reads I hs rs
    exact ⟨_, .cons ra rb⟩
end
noncomputable def rEqD (K : PySem.W.Frag) (neg : Bool) : R2 := fun x y H Q => ∃ d1 d2 : PyData, DV K H x d1 ∧ DV K H y d2 ∧ SeqAt.shaped d1 = true ∧ SeqAt.shaped d2 = true ∧ SeqAt.noMix d1 d2 = true ∧ Q (.bl (if neg then !same d1 d2 else same d1 d2)) H
theorem op_eqD (h : X.K = K) (hu : X.A.units + 64 < cLine) : OpR X (compareOp .Eq) (rEqD K false) := by
  subst h
  intro pins s σ H x y v u Q I rx ry h
  obtain ⟨d1, d2, h1, h2, s1, s2, nm, q⟩ := h
  obtain ⟨as, ra⟩ := h1.reads I rx
  obtain ⟨bs, rb⟩ := h2.reads I ry
  exact eq_dataH_same ra rb s1 s2 hu nm ⟨.bl _, H, I, rfl, q⟩
theorem op_neD (h : X.K = K) (hu : X.A.units + 64 < cLine) : OpR X (compareOp .NotEq) (rEqD K true) := by
  subst h
  intro pins s σ H x y v u Q I rx ry h
  obtain ⟨d1, d2, h1, h2, s1, s2, nm, q⟩ := h
  obtain ⟨as, ra⟩ := h1.reads I rx
  obtain ⟨bs, rb⟩ := h2.reads I ry
  exact ne_dataH_same ra rb s1 s2 hu nm ⟨.bl _, H, I, rfl, q⟩
end
/-! lists of data of one form -/
section
variable {α : Type} {f : α → PyData}
theorem sameAll_map [DecidableEq α] (h : ∀ a b, same (f a) (f b) = decide (a = b)) : ∀ xs ys : List α, sameAll (xs.map f) (ys.map f) = decide (xs = ys)
  | [], [] => by simp [sameAll]
  | [], _ :: _ => by simp [sameAll]
  | _ :: _, [] => by simp [sameAll]
  | x :: xs, y :: ys => by
    simp only [List.map_cons, sameAll, h, sameAll_map h xs ys]
    by_cases e : x = y <;> simp [e]
theorem noMixAll_map (h : ∀ a b, SeqAt.noMix (f a) (f b) = true) : ∀ xs ys : List α, SeqAt.noMixAll (xs.map f) (ys.map f) = true
  | [], [] => by simp [SeqAt.noMixAll]
  | [], _ :: _ => by simp [SeqAt.noMixAll]
  | _ :: _, [] => by simp [SeqAt.noMixAll]
  | x :: xs, y :: ys => by simp [SeqAt.noMixAll, h, noMixAll_map h xs ys]
theorem canLayAll_map (h : ∀ a, PyData.canLay0 (f a) = true) : ∀ xs : List α, PyData.canLayAll0 (xs.map f) = true
  | [] => by simp [PyData.canLayAll0]
  | x :: xs => by simp [PyData.canLayAll0, h, canLayAll_map h xs]
theorem depthAll_map {n : Nat} (h : ∀ a, PyData.depth (f a) ≤ n) : ∀ xs : List α, PyData.depthAll (xs.map f) ≤ n
  | [] => by simp [PyData.depthAll]
  | x :: xs => by
    have h1 := h x
    have h2 := depthAll_map h xs
    simp only [List.map_cons, PyData.depthAll]
    omega
theorem shaped_map (h : ∀ a, PyData.canLay0 (f a) = true) (hd : ∀ a, PyData.depth (f a) ≤ 10) (xs : List α) : SeqAt.shaped (.list (xs.map f)) = true := by
  have h2 : PyData.depth (.list (xs.map f)) ≤ 64 := by
    have := depthAll_map hd xs
    simp only [PyData.depth]
    omega
  show (PyData.canLay0 (.list (xs.map f)) && decide (PyData.depth (.list (xs.map f)) ≤ 64)) = true
  rw [Bool.and_eq_true]
  exact ⟨by simp only [PyData.canLay0]; exact canLayAll_map h xs, decide_eq_true h2⟩
end
/-- rules -/
noncomputable def dR (r : Bool × Nat × Nat) : PyData := .tuple [.str (wordS r.1), .int (r.2.1 : Int), .int (r.2.2 : Int)]
theorem noMix_dR (a b : Bool × Nat × Nat) : SeqAt.noMix (dR a) (dR b) = true := by unfold dR; simp [SeqAt.noMix, SeqAt.noMixAll]
theorem canLay_dR (a : Bool × Nat × Nat) : PyData.canLay0 (dR a) = true := by
  unfold dR
  obtain ⟨b, x, y⟩ := a
  have h1 : PyData.strOk (wordS true) = true := by decide +kernel
  have h2 : PyData.strOk (wordS false) = true := by decide +kernel
  cases b <;> simp only [PyData.canLay0, PyData.canLayAll0, h1, h2, Bool.and_true]
theorem depth_dR (a : Bool × Nat × Nat) : PyData.depth (dR a) ≤ 10 := by unfold dR; simp [PyData.depth, PyData.depthAll]
/-! xs[::-1] -/
section
variable {X : Cx} {K : PySem.W.Frag} {e : Expr} {te : TE} {ste : Expr} {tst : TO} {pos p2 : Pos}
end
/-! slices told in naturals -/
theorem cut_take (xs : List V) (k : Nat) : cutV xs none (some (k : Int)) = xs.take k := by
  unfold cutV
  show (xs.drop 0).take (HT.sIx xs.length xs.length (some ((k : Nat) : Int)) - 0) = _
  rw [HT.sIx_nat, List.drop_zero, Nat.sub_zero, List.take_eq_take_iff]
  omega
theorem cut_drop (xs : List V) (k : Nat) : cutV xs (some (k : Int)) none = xs.drop k := by
  unfold cutV
  rw [HT.sIx_nat, HT.sIx_none]
  by_cases h : k ≤ xs.length
  · rw [Nat.min_eq_left h, List.take_of_length_le (by rw [List.length_drop]; exact Nat.le_refl _)]
  · rw [Nat.min_eq_right (by omega), List.drop_eq_nil_of_le (Nat.le_refl _), List.drop_eq_nil_of_le (by omega), List.take_nil]
end L2

namespace L2
open PySem PySem.Spec PyProof.Rows
theorem Same.none {H H' : Hp} {p : Addr} (e : Same H H') (h : H' p = none) : H p = none := by
  cases z : H p with
  | none => rfl
  | some o => rw [e _ _ z] at h; cases h
/-! ### stage 2's laws: what their shared defs promise -/
noncomputable def usableB (st : Bool) (x y b : Nat) : Bool := decide (x &&& b = 0) && !decide (y &&& b = 0) && (st || !decide (y &&& b = b))
noncomputable def spUsable : Sp := fun vs H Q _ => ∃ (r : Addr) (st : Bool) (x y b : Nat), vs = [.ref r, vN b] ∧ RuleAt H r st x y ∧ Q (.bl (usableB st x y b)) H
noncomputable def inN (y : Nat) (bs : List Nat) (at_ : Nat) : Nat := bs.getD at_ 0 &&& y
noncomputable def outN (y : Nat) (bs : List Nat) (at_ : Nat) : Nat := bs.getD at_ 0 - inN y bs at_
noncomputable def behindFx (st : Bool) (y fx : Nat) (bs : List Nat) (at_ : Nat) : Nat := if st = true then fx + inN y bs at_ else fx
noncomputable def behindBs (st : Bool) (y : Nat) (bs : List Nat) (at_ : Nat) : List Nat :=
  bs.take at_ ++ (if st = true then (if 0 < outN y bs at_ then [outN y bs at_] else []) else [inN y bs at_, outN y bs at_]) ++ bs.drop (at_ + 1)
end L2

namespace L2
/-! ### why a draw by 48271 comes to a multiple of four -/
end L2

namespace L2
/-! ### the mathematics of unfolding -/
theorem or_add : ∀ (a b : Nat), a &&& b = 0 → a ||| b = a + b := by
  intro a
  induction a using Nat.strongRecOn with
  | _ a ih =>
    intro b h
    by_cases a0 : a = 0
    · subst a0; simp
    have i := ih (a / 2) (by omega) (b / 2) (by rw [← Nat.and_div_two, h])
    rw [← Nat.or_div_two] at i
    have m1 := Nat.and_mod_two_eq_one (a := a) (b := b)
    have m2 := Nat.or_mod_two_eq_one (a := a) (b := b)
    rw [h] at m1
    omega
theorem dis_iff {a b : Nat} : a &&& b = 0 ↔ ∀ k, a.testBit k = true → b.testBit k = false := by
  constructor
  · intro h k ha
    have e : (a &&& b).testBit k = (0 : Nat).testBit k := by rw [h]
    rw [Nat.testBit_and, Nat.zero_testBit, ha, Bool.true_and] at e
    exact e
  · intro h
    refine Nat.eq_of_testBit_eq fun k => ?_
    rw [Nat.testBit_and, Nat.zero_testBit]
    cases ha : a.testBit k with
    | false => rfl
    | true => rw [h k ha]; rfl
theorem dis_comm {a b : Nat} (h : a &&& b = 0) : b &&& a = 0 := by rw [Nat.and_comm]; exact h
noncomputable def SubN (c b : Nat) : Prop := ∀ k, c.testBit k = true → b.testBit k = true
theorem dis_sub {a b c : Nat} (h : a &&& b = 0) (s : SubN c b) : a &&& c = 0 := dis_iff.mpr fun k ha => by
  cases hc : c.testBit k with
  | false => rfl
  | true => have := dis_iff.mp h k ha; rw [s k hc] at this; exact this
theorem dis_sub' {a b c : Nat} (h : b &&& a = 0) (s : SubN c b) : c &&& a = 0 := dis_comm (dis_sub (dis_comm h) s)
theorem sub_xor (b y : Nat) : b - (b &&& y) = b ^^^ (b &&& y) := by
  have h0 : (b ^^^ (b &&& y)) &&& (b &&& y) = 0 := dis_iff.mpr fun k h => by
    rw [Nat.testBit_xor, Nat.testBit_and] at h
    rw [Nat.testBit_and]
    cases hb : b.testBit k <;> cases hy : y.testBit k <;> rw [hb, hy] at h <;> first | rfl | (simp at h)
  have h1 : (b ^^^ (b &&& y)) ||| (b &&& y) = b := by
    refine Nat.eq_of_testBit_eq fun k => ?_
    rw [Nat.testBit_or, Nat.testBit_xor, Nat.testBit_and]
    cases hb : b.testBit k <;> cases hy : y.testBit k <;> rfl
  have h2 := or_add _ _ h0
  omega
theorem tb_out (b y k : Nat) : (b - (b &&& y)).testBit k = (b.testBit k && !y.testBit k) := by
  rw [sub_xor, Nat.testBit_xor, Nat.testBit_and]
  cases b.testBit k <;> cases y.testBit k <;> rfl
theorem sub_in (b y : Nat) : SubN (b &&& y) b := fun k h => by
  rw [Nat.testBit_and, Bool.and_eq_true] at h
  exact h.1
theorem sub_out (b y : Nat) : SubN (b - (b &&& y)) b := fun k h => by
  rw [tb_out, Bool.and_eq_true] at h
  exact h.1
theorem dis_in_out (b y : Nat) : (b &&& y) &&& (b - (b &&& y)) = 0 := dis_iff.mpr fun k h => by
  rw [Nat.testBit_and, Bool.and_eq_true] at h
  rw [tb_out, h.1, h.2]; rfl
theorem full_dis {m x : Nat} (h : x < 2 ^ m) : x &&& (2 ^ m - 1 - x) = 0 := dis_iff.mpr fun k hk => by
  have e : 2 ^ m - 1 - x = 2 ^ m - (x + 1) := by omega
  rw [e, Nat.testBit_two_pow_sub_succ h, hk]
  simp
structure Good (m fx : Nat) (bs : List Nat) : Prop where
  sum : fx + bs.sum = 2 ^ m - 1
  pos : ∀ b ∈ bs, 0 < b
  dis : ∀ b ∈ bs, fx &&& b = 0
  pw : bs.Pairwise fun a b => a &&& b = 0
theorem len_sum : ∀ {bs : List Nat}, (∀ b ∈ bs, 0 < b) → bs.length ≤ bs.sum
  | [], _ => Nat.le_refl _
  | b :: bs, h => by
    have h1 := h b (List.mem_cons_self ..)
    have h2 := len_sum (bs := bs) fun c hc => h c (List.mem_cons_of_mem _ hc)
    rw [List.length_cons, List.sum_cons]
    omega
theorem pow7 {m : Nat} (h : m ≤ 7) : 2 ^ m ≤ 128 := Nat.pow_le_pow_right (by decide) h
theorem Good.len {m fx : Nat} {bs : List Nat} (g : Good m fx bs) (h : m ≤ 7) : bs.length ≤ 127 := by
  have h1 := len_sum g.pos
  have h2 := g.sum
  have h3 := pow7 h
  omega
theorem split_at {bs : List Nat} {i : Nat} (h : i < bs.length) : bs = bs.take i ++ bs.getD i 0 :: bs.drop (i + 1) := by
  have e : bs.getD i 0 = bs[i] := by rw [List.getD_eq_getElem?_getD, List.getElem?_eq_getElem h]; rfl
  rw [e, ← List.drop_eq_getElem_cons h, List.take_append_drop]
theorem usable_in {st : Bool} {x y b : Nat} (h : usableB st x y b = true) : x &&& b = 0 ∧ 0 < b &&& y ∧ (st = true ∨ b &&& y < b) := by
  unfold usableB at h
  rw [Bool.and_eq_true, Bool.and_eq_true] at h
  obtain ⟨⟨h1, h2⟩, h3⟩ := h
  have e1 := of_decide_eq_true h1
  have e2 : ¬ (y &&& b = 0) := by
    intro z; rw [decide_eq_true z] at h2; cases h2
  rw [Nat.and_comm] at e2
  refine ⟨e1, by omega, ?_⟩
  rw [Bool.or_eq_true] at h3
  rcases h3 with h3 | h3
  · exact .inl h3
  · right
    have e3 : ¬ (y &&& b = b) := by
      intro z; rw [decide_eq_true z] at h3; cases h3
    rw [Nat.and_comm] at e3
    have := Nat.and_le_left (n := b) (m := y)
    omega
theorem Good.use {m fx : Nat} {bs : List Nat} (g : Good m fx bs) {st : Bool} {x y i : Nat} (hi : i < bs.length) (hu : usableB st x y (bs.getD i 0) = true) :
    Good m (behindFx st y fx bs i) (behindBs st y bs i) ∧ 2 * (behindBs st y bs i).sum - (behindBs st y bs i).length < 2 * bs.sum - bs.length := by
  obtain ⟨_, hin, hout⟩ := usable_in hu
  have e := split_at hi
  have ls := len_sum g.pos
  unfold behindFx behindBs outN inN
  generalize bs.getD i 0 = b at e hin hout
  generalize bs.take i = p at e
  generalize bs.drop (i + 1) = q at e
  subst e
  have le : b &&& y ≤ b := Nat.and_le_left
  obtain ⟨sm, ps, ds, pw⟩ := g
  have hb : b ∈ p ++ b :: q := List.mem_append_right _ (List.mem_cons_self ..)
  have hp : ∀ c ∈ p, c ∈ p ++ b :: q := fun c hc => List.mem_append_left _ hc
  have hq : ∀ c ∈ q, c ∈ p ++ b :: q := fun c hc => List.mem_append_right _ (List.mem_cons_of_mem _ hc)
  have db := ds b hb
  rw [List.pairwise_append, List.pairwise_cons] at pw
  obtain ⟨pp, ⟨bq, qq⟩, pq⟩ := pw
  have pb : ∀ c ∈ p, c &&& b = 0 := fun c hc => pq c hc b (List.mem_cons_self ..)
  have pq' : ∀ c ∈ p, ∀ d ∈ q, c &&& d = 0 := fun c hc d hd => pq c hc d (List.mem_cons_of_mem _ hd)
  have sm' : (p ++ b :: q).sum = p.sum + (b + q.sum) := by rw [List.sum_append, List.sum_cons]
  have ln' : (p ++ b :: q).length = p.length + (q.length + 1) := by rw [List.length_append, List.length_cons]
  rw [sm'] at sm ls
  rw [sm', ln']
  rw [ln'] at ls
  have lp : p.length ≤ p.sum := len_sum fun c hc => ps c (hp c hc)
  have lq : q.length ≤ q.sum := len_sum fun c hc => ps c (hq c hc)
  have orfx : ∀ c, fx &&& c = 0 → (b &&& y) &&& c = 0 → (fx + (b &&& y)) &&& c = 0 := fun c h1 h2 => by
    rw [← or_add _ _ (dis_sub db (sub_in b y))]
    refine dis_iff.mpr fun k hk => ?_
    rw [Nat.testBit_or, Bool.or_eq_true] at hk
    rcases hk with hk | hk
    · exact dis_iff.mp h1 k hk
    · exact dis_iff.mp h2 k hk
  have inp : ∀ c ∈ p, (b &&& y) &&& c = 0 := fun c hc => dis_comm (dis_sub (pb c hc) (sub_in b y))
  have inq : ∀ c ∈ q, (b &&& y) &&& c = 0 := fun c hc => dis_sub' (bq c hc) (sub_in b y)
  have outp : ∀ c ∈ p, c &&& (b - (b &&& y)) = 0 := fun c hc => dis_sub (pb c hc) (sub_out b y)
  have outq : ∀ c ∈ q, (b - (b &&& y)) &&& c = 0 := fun c hc => dis_sub' (bq c hc) (sub_out b y)
  cases st with
  | true =>
    simp only [if_true]
    by_cases ho : 0 < b - (b &&& y)
    · rw [if_pos ho]
      refine ⟨⟨?_, ?_, ?_, ?_⟩, ?_⟩
      · rw [List.append_assoc, List.sum_append, List.singleton_append, List.sum_cons]; omega
      · intro c hc
        rcases List.mem_append.mp hc with hc | hc
        · rcases List.mem_append.mp hc with hc | hc
          · exact ps c (hp c hc)
          · rw [List.mem_singleton.mp hc]; exact ho
        · exact ps c (hq c hc)
      · intro c hc
        rcases List.mem_append.mp hc with hc | hc
        · rcases List.mem_append.mp hc with hc | hc
          · exact orfx c (ds c (hp c hc)) (inp c hc)
          · rw [List.mem_singleton.mp hc]; exact orfx _ (dis_sub db (sub_out b y)) (dis_in_out b y)
        · exact orfx c (ds c (hq c hc)) (inq c hc)
      · rw [List.append_assoc, List.singleton_append, List.pairwise_append, List.pairwise_cons]
        refine ⟨pp, ⟨outq, qq⟩, fun c hc d hd => ?_⟩
        rcases List.mem_cons.mp hd with rfl | hd
        · exact outp c hc
        · exact pq' c hc d hd
      · rw [List.append_assoc, List.sum_append, List.singleton_append, List.sum_cons, List.length_append, List.length_cons]; omega
    · rw [if_neg ho, List.append_nil]
      refine ⟨⟨?_, ?_, ?_, ?_⟩, ?_⟩
      · rw [List.sum_append]; omega
      · intro c hc
        rcases List.mem_append.mp hc with hc | hc
        · exact ps c (hp c hc)
        · exact ps c (hq c hc)
      · intro c hc
        rcases List.mem_append.mp hc with hc | hc
        · exact orfx c (ds c (hp c hc)) (inp c hc)
        · exact orfx c (ds c (hq c hc)) (inq c hc)
      · rw [List.pairwise_append]
        exact ⟨pp, qq, pq'⟩
      · rw [List.sum_append, List.length_append]; omega
  | false =>
    have ho : 0 < b - (b &&& y) := by
      rcases hout with h | h
      · cases h
      · omega
    simp only [Bool.false_eq_true, if_false]
    rw [List.append_assoc, List.cons_append, List.cons_append, List.nil_append]
    refine ⟨⟨?_, ?_, ?_, ?_⟩, ?_⟩
    · rw [List.sum_append, List.sum_cons, List.sum_cons]; omega
    · intro c hc
      rcases List.mem_append.mp hc with hc | hc
      · exact ps c (hp c hc)
      · rcases List.mem_cons.mp hc with rfl | hc
        · exact hin
        · rcases List.mem_cons.mp hc with rfl | hc
          · exact ho
          · exact ps c (hq c hc)
    · intro c hc
      rcases List.mem_append.mp hc with hc | hc
      · exact ds c (hp c hc)
      · rcases List.mem_cons.mp hc with rfl | hc
        · exact dis_sub db (sub_in b y)
        · rcases List.mem_cons.mp hc with rfl | hc
          · exact dis_sub db (sub_out b y)
          · exact ds c (hq c hc)
    · rw [List.pairwise_append, List.pairwise_cons, List.pairwise_cons]
      refine ⟨pp, ⟨fun d hd => ?_, outq, qq⟩, fun c hc d hd => ?_⟩
      · rcases List.mem_cons.mp hd with rfl | hd
        · exact dis_in_out b y
        · exact inq d hd
      · rcases List.mem_cons.mp hd with rfl | hd
        · exact dis_comm (inp c hc)
        · rcases List.mem_cons.mp hd with rfl | hd
          · exact outp c hc
          · exact pq' c hc d hd
    · rw [List.sum_append, List.sum_cons, List.sum_cons, List.length_append, List.length_cons, List.length_cons]; omega
/-- the blocks at the beginning -/
noncomputable def beginBs (m x : Nat) : List Nat := if x < 2 ^ m - 1 then [2 ^ m - 1 - x] else []
theorem Good.begin {m x : Nat} (h : x < 2 ^ m) : Good m x (beginBs m x) := by
  unfold beginBs
  split
  · refine ⟨by simp; omega, fun b hb => ?_, fun b hb => ?_, List.pairwise_singleton _ _⟩
    · rw [List.mem_singleton.mp hb]; omega
    · rw [List.mem_singleton.mp hb]; exact full_dis h
  · exact ⟨by simp; omega, fun b hb => absurd hb List.not_mem_nil, fun b hb => absurd hb List.not_mem_nil, List.Pairwise.nil⟩
/-! uses, in their order -/
noncomputable abbrev RD := Bool × Nat × Nat
noncomputable def usB (r : RD) (b : Nat) : Bool := usableB r.1 r.2.1 r.2.2 b
noncomputable def usesR (r : RD) (k : Nat) (bs : List Nat) (n : Nat) : List (Nat × Nat) := ((List.range n).filter fun a => usB r (bs.getD a 0)).map fun a => (k, a)
noncomputable def rdAt (rs : List RD) (k : Nat) : RD := rs.getD k (false, 0, 0)
noncomputable def usesN (rs : List RD) (bs : List Nat) (i : Nat) : List (Nat × Nat) := (List.range i).flatMap fun k => usesR (rdAt rs k) k bs bs.length
theorem usesR_succ (r : RD) (k : Nat) (bs : List Nat) (n : Nat) : usesR r k bs (n + 1) = usesR r k bs n ++ (if usB r (bs.getD n 0) = true then [(k, n)] else []) := by
  unfold usesR
  rw [List.range_succ, List.filter_append, List.map_append]
  congr 1
  cases h : usB r (bs.getD n 0) <;> simp only [List.filter_cons, List.filter_nil, h] <;> rfl
theorem usesN_succ (rs : List RD) (bs : List Nat) (i : Nat) : usesN rs bs (i + 1) = usesN rs bs i ++ usesR (rdAt rs i) i bs bs.length := by
  unfold usesN
  rw [List.range_succ, List.flatMap_append, List.flatMap_cons, List.flatMap_nil, List.append_nil]
theorem mem_usesR {r : RD} {k n : Nat} {bs : List Nat} {u : Nat × Nat} (h : u ∈ usesR r k bs n) : u.1 = k ∧ u.2 < n ∧ usB r (bs.getD u.2 0) = true := by
  unfold usesR at h
  obtain ⟨a, ha, rfl⟩ := List.mem_map.mp h
  obtain ⟨h1, h2⟩ := List.mem_filter.mp ha
  exact ⟨rfl, List.mem_range.mp h1, h2⟩
theorem mem_usesN {rs : List RD} {bs : List Nat} {i : Nat} {u : Nat × Nat} (h : u ∈ usesN rs bs i) : u.1 < i ∧ u.2 < bs.length ∧ usB (rdAt rs u.1) (bs.getD u.2 0) = true := by
  unfold usesN at h
  obtain ⟨k, hk, hu⟩ := List.mem_flatMap.mp h
  obtain ⟨rfl, h2, h3⟩ := mem_usesR hu
  exact ⟨List.mem_range.mp hk, h2, h3⟩
/-! a run -/
structure US where
  fx : Nat
  bs : List Nat
  st : List (Nat × Nat)
noncomputable def stepS (rs : List RD) (s : US) (u : Nat × Nat) : US :=
  ⟨behindFx (rdAt rs u.1).1 (rdAt rs u.1).2.2 s.fx s.bs u.2, behindBs (rdAt rs u.1).1 (rdAt rs u.1).2.2 s.bs u.2, s.st ++ [(u.1, s.bs.getD u.2 0)]⟩
inductive Run (rs : List RD) : US → US → Prop
  | done {s : US} : usesN rs s.bs rs.length = [] → Run rs s s
  | step {s t : US} {u : Nat × Nat} {us : List (Nat × Nat)} : usesN rs s.bs rs.length = u :: us → Run rs (stepS rs s u) t → Run rs s t
noncomputable def muS (bs : List Nat) : Nat := 2 * bs.sum - bs.length
theorem step_good {rs : List RD} {s : US} {u : Nat × Nat} {m : Nat} (g : Good m s.fx s.bs) (h : u ∈ usesN rs s.bs rs.length) : Good m (stepS rs s u).fx (stepS rs s u).bs ∧ muS (stepS rs s u).bs < muS s.bs := by
  obtain ⟨_, h2, h3⟩ := mem_usesN h
  exact g.use h2 h3
theorem step_st (rs : List RD) (s : US) (u : Nat × Nat) : (stepS rs s u).st.length = s.st.length + 1 := by
  unfold stepS
  rw [List.length_append]; rfl
theorem usesR_pre (r : RD) (k : Nat) (bs : List Nat) (j : Nat) : ∀ d, ∃ z, usesR r k bs (j + d) = usesR r k bs j ++ z
  | 0 => ⟨[], by rw [List.append_nil]; rfl⟩
  | d + 1 => by
    obtain ⟨z, e⟩ := usesR_pre r k bs j d
    exact ⟨_, by rw [← Nat.add_assoc, usesR_succ, e, List.append_assoc]⟩
theorem usesN_pre (rs : List RD) (bs : List Nat) (i : Nat) : ∀ d, ∃ z, usesN rs bs (i + d) = usesN rs bs i ++ z
  | 0 => ⟨[], by rw [List.append_nil]; rfl⟩
  | d + 1 => by
    obtain ⟨z, e⟩ := usesN_pre rs bs i d
    exact ⟨_, by rw [← Nat.add_assoc, usesN_succ, e, List.append_assoc]⟩
theorem uses_first {rs : List RD} {bs : List Nat} {i j n : Nat} (h0 : usesN rs bs i = []) (h1 : usesR (rdAt rs i) i bs j = []) (hi : i < n) (hj : j < bs.length) (hu : usB (rdAt rs i) (bs.getD j 0) = true) : ∃ us, usesN rs bs n = (i, j) :: us := by
  obtain ⟨z, e⟩ := usesN_pre rs bs (i + 1) (n - (i + 1))
  obtain ⟨z', e'⟩ := usesR_pre (rdAt rs i) i bs (j + 1) (bs.length - (j + 1))
  rw [show i + 1 + (n - (i + 1)) = n by omega] at e
  rw [show j + 1 + (bs.length - (j + 1)) = bs.length by omega, usesR_succ, h1, if_pos hu] at e'
  rw [e, usesN_succ, h0, e']
  exact ⟨_, rfl⟩
/-! the parts drawn by k20's law -/
/-! every column is fixed or in a block -/
/-! a set whose book keeps the rules stays within one block -/
end L2

namespace L2
open PySem PySem.Spec PyProof.Rows
/-! ### what is not in a set, min, an object of one's own written -/
theorem Same.own {H H' : Hp} {p : Addr} {o : HO} (e : Same H H') (h : H p = Option.none) : Same H (upd H' p o) := fun c u z => by
  rw [upd_ne (ne_of_none z h)]
  exact e c u z
theorem and_not (b y : Nat) : Builtin.bitAnd (b : Int) (Builtin.bitNot (y : Int)) = ((b - (b &&& y) : Nat) : Int) := by
  have hy : ¬ 0 ≤ Builtin.bitNot (y : Int) := by unfold Builtin.bitNot; omega
  have hb : 0 ≤ (b : Int) := by omega
  have le := Nat.and_le_left (n := b) (m := y)
  simp only [Builtin.bitAnd, hy, hb, decide_false, decide_true, bitNot_not, Int.toNat_natCast]
  omega
section
variable {X : Cx} {K : PySem.W.Frag}
theorem op_andInv : OpR X (binaryOp .BitAnd) (fun x y H Q => ∃ a b : Nat, x = vN a ∧ y = .int (Builtin.bitNot (b : Int)) ∧ Q (vN (a - (a &&& b))) H) := op_and.mono fun x y H Q ⟨a, b, h1, h2, q⟩ => ⟨a, _, h1, h2, by
  show Q (V.int (Builtin.bitAnd (a : Int) (Builtin.bitNot (b : Int)))) H
  rw [and_not]; exact q⟩
theorem pg_tupK {es : List Expr} {k : Nat} {pos : Pos} {t : TGs} {n : Nat} (hK : X.K = K) (hc : X.calm = true) (h : PGs X es t) (hn : (assignEach es X.env).length = n) (hst : (assignEach es X.env).findIdx? (·.1) = none) : PG X (.Tuple es k pos) (gTup K n t) := hK ▸ pg_tup hc h hn hst
end
/-! ### what the unfolding's defs promise -/
noncomputable def spListed : Sp := fun vs H Q _ => ∃ b : Nat, vs = [vN b] ∧ ∀ p, H p = none → Q (.ref p) (upd H p (.lst ((if 0 < b then [b] else []).map vN)))
noncomputable def spUsed (K : PySem.W.Frag) : Sp := fun vs H Q _ => ∃ (r l : Addr) (st : Bool) (x y fx at_ : Nat) (bs : List Nat), vs = [.ref r, vN fx, .ref l, vN at_] ∧ RuleAt H r st x y ∧ SqL K H l (bs.map vN) ∧ at_ < bs.length ∧ bs.length ≤ 200 ∧ fx &&& bs.getD at_ 0 = 0 ∧
  ∀ (t p : Addr) (H' : Hp), Same H H' → H t = none → H' t = some (.tup [vN (behindFx st y fx bs at_), .ref p]) → H p = none → H' p = some (.lst ((behindBs st y bs at_).map vN)) → Q (.ref t) H'
noncomputable def spBegun (K : PySem.W.Frag) : Sp := fun vs H Q _ => ∃ m x : Nat, vs = [vN m, vN x] ∧ m ≤ 7 ∧ x < 2 ^ m ∧
  ∀ (t p : Addr) (H' : Hp), Same H H' → H t = none → H' t = some (.tup [vN x, .ref p]) → H p = none → H' p = some (.lst ((beginBs m x).map vN)) → Q (.ref t) H'
noncomputable def Rl.d (r : Rl) : RD := (r.st, r.x, r.y)
theorem rd_at {rs : List Rl} {k : Nat} {r : Rl} (h : rs[k]? = some r) : rdAt (rs.map Rl.d) k = r.d := by
  unfold rdAt
  rw [List.getD_eq_getElem?_getD, List.getElem?_map, h]; rfl
noncomputable def RulesAt (H : Hp) (m : Nat) (rs : List Rl) : Prop := ∀ r ∈ rs, RuleAt H r.r r.st r.x r.y ∧ r.x < 2 ^ m ∧ r.y < 2 ^ m
theorem RulesAt.same {H H' : Hp} {m : Nat} {rs : List Rl} (h : RulesAt H m rs) (e : Same H H') : RulesAt H' m rs := fun r hr => ⟨e _ _ (h r hr).1, (h r hr).2⟩
noncomputable def spFirstUse (K : PySem.W.Frag) : Sp := fun vs H Q _ => ∃ (rl bl : Addr) (rs : List Rl) (bs : List Nat) (m : Nat), vs = [.ref rl, .ref bl] ∧ SqL K H rl (rs.map fun r => V.ref r.r) ∧ RulesAt H m rs ∧ SqL K H bl (bs.map vN) ∧ rs.length ≤ 200 ∧ bs.length ≤ 200 ∧
  (∀ H', Same H H' → usesN (rs.map Rl.d) bs rs.length = [] → Q .non H') ∧
  ∀ (u : Nat × Nat) (us : List (Nat × Nat)) (t : Addr) (H' : Hp), Same H H' → usesN (rs.map Rl.d) bs rs.length = u :: us → H t = none → H' t = some (.tup [vN u.1, vN u.2]) → Q (.ref t) H'
/-- tuples of two numbers in the heap -/
noncomputable abbrev SW := Addr × (Nat × Nat)
noncomputable def StepsAt (H : Hp) (sw : List SW) : Prop := ∀ w ∈ sw, H w.1 = some (.tup [vN w.2.1, vN w.2.2])
theorem StepsAt.same {H H' : Hp} {sw : List SW} (h : StepsAt H sw) (e : Same H H') : StepsAt H' sw := fun w hw => e _ _ (h w hw)
theorem StepsAt.put {H : Hp} {sw : List SW} {q : Addr} {xs ys : List V} (h : StepsAt H sw) (hq : H q = some (.lst xs)) : StepsAt (upd H q (.lst ys)) sw := fun w hw => by
  rw [upd_ne (ne_of (h w hw) hq (by intro z; cases z))]
  exact h w hw
theorem StepsAt.snoc {H : Hp} {sw : List SW} {w : SW} (h : StepsAt H sw) (hw : H w.1 = some (.tup [vN w.2.1, vN w.2.2])) : StepsAt H (sw ++ [w]) := fun v hv => by
  rcases List.mem_append.mp hv with hv | hv
  · exact h v hv
  · rw [List.mem_singleton.mp hv]; exact hw
theorem rd_len (rs : List Rl) : (rs.map Rl.d).length = rs.length := List.length_map ..
noncomputable def spUnfolded (K : PySem.W.Frag) : Sp := fun vs H Q _ => ∃ (m x : Nat) (rl : Addr) (rs : List Rl), vs = [vN m, .ref rl, vN x] ∧ m ≤ 7 ∧ x < 2 ^ m ∧ SqL K H rl (rs.map fun r => V.ref r.r) ∧ RulesAt H m rs ∧ rs.length ≤ 200 ∧
  ∀ (t p q : Addr) (s : US) (sw : List SW) (H' : Hp), Run (rs.map Rl.d) ⟨x, beginBs m x, []⟩ s → Same H H' → H t = none → H' t = some (.tup [vN s.fx, .ref p, .ref q]) → H p = none → H' p = some (.lst (s.bs.map vN)) → H q = none → H' q = some (.lst (sw.map fun w => V.ref w.1)) → StepsAt H' sw → sw.map (·.2) = s.st → sw.length ≤ 300 → p ≠ q → Q (.ref t) H'
/-! data -/
theorem same_list {α : Type} [DecidableEq α] {f : α → PyData} (h : ∀ a b, same (f a) (f b) = decide (a = b)) (xs ys : List α) : same (.list (xs.map f)) (.list (ys.map f)) = decide (xs = ys) := by
  simp only [same]
  exact sameAll_map h xs ys
theorem noMix_list {α : Type} {f : α → PyData} (h : ∀ a b, SeqAt.noMix (f a) (f b) = true) (xs ys : List α) : SeqAt.noMix (.list (xs.map f)) (.list (ys.map f)) = true := by
  simp only [SeqAt.noMix]
  exact noMixAll_map h xs ys
theorem same_dR (a b : RD) : same (dR a) (dR b) = decide (a = b) := by
  unfold dR
  obtain ⟨a1, a2, a3⟩ := a
  obtain ⟨b1, b2, b3⟩ := b
  have hw : (wordS a1 = wordS b1) ↔ a1 = b1 := by
    constructor
    · intro h
      cases a1 <;> cases b1 <;> first | rfl | (exact absurd h (by decide))
    · rintro rfl; rfl
  by_cases h1 : a1 = b1 <;> by_cases h2 : a2 = b2 <;> by_cases h3 : a3 = b3 <;> simp [same, sameAll, hw, h1, h2, h3, Int.ofNat_inj]
theorem rules_dv {K : PySem.W.Frag} {H : Hp} {m : Nat} : ∀ {rs : List Rl}, RulesAt H m rs → DVs K H (rs.map fun r => V.ref r.r) ((rs.map Rl.d).map dR)
  | [], _ => .nil
  | r :: rs, h => .cons (.tup (SqT.of (h r (List.mem_cons_self ..)).1) (.cons (.str _) (.cons (.int _) (.cons (.int _) .nil)))) (rules_dv fun v hv => h v (List.mem_cons_of_mem _ hv))
end L2

namespace L2
open PySem PySem.Spec PyProof.Rows
/-! ### an unfolding under way, in the heap -/
structure UCore (H : Hp) (m x : Nat) (rs : List Rl) (s : US) (p qa : Addr) (sw : List SW) (H' : Hp) : Prop where
  same : Same H H'
  hp0 : H p = none
  hp : H' p = some (.lst (s.bs.map vN))
  npq : p ≠ qa
  hq0 : H qa = none
  hq : H' qa = some (.lst (sw.map fun w => V.ref w.1))
  st : StepsAt H' sw
  est : sw.map (·.2) = s.st
  good : Good m s.fx s.bs
  run : ∀ z, Run (rs.map Rl.d) s z → Run (rs.map Rl.d) ⟨x, beginBs m x, []⟩ z
  len : s.st.length + muS s.bs ≤ 254
theorem UCore.mono {H : Hp} {m x : Nat} {rs : List Rl} {s : US} {p qa : Addr} {sw : List SW} {H' H'' : Hp} (c : UCore H m x rs s p qa sw H') (e : Same H' H'') : UCore H m x rs s p qa sw H'' :=
  ⟨c.same.trans e, c.hp0, e _ _ c.hp, c.npq, c.hq0, e _ _ c.hq, c.st.same e, c.est, c.good, c.run, c.len⟩
theorem UCore.begin {H H' : Hp} {m x : Nat} {rs : List Rl} {p qa : Addr} (m7 : m ≤ 7) (hx : x < 2 ^ m) (e : Same H H') (hp0 : H p = none) (hp : H' p = some (.lst ((beginBs m x).map vN))) (hq : H' qa = none) : UCore H m x rs ⟨x, beginBs m x, []⟩ p qa [] (upd H' qa (.lst [])) := by
  have g := Good.begin hx
  refine ⟨e.trans (Same.new hq), hp0, Same.new hq _ _ hp, ne_of_none hp hq, e.none hq, upd_same, fun w h => absurd h List.not_mem_nil, rfl, g, fun z h => h, ?_⟩
  have e := g.sum
  have p7 := pow7 m7
  show 0 + muS (beginBs m x) ≤ 254
  unfold muS
  omega
theorem UCore.slen {H : Hp} {m x : Nat} {rs : List Rl} {s : US} {p qa : Addr} {sw : List SW} {H' : Hp} (c : UCore H m x rs s p qa sw H') : sw.length ≤ 254 := by
  have := c.len
  have e := congrArg List.length c.est
  rw [List.length_map] at e
  omega
theorem UCore.next {H : Hp} {m x : Nat} {rs : List Rl} {s : US} {p p' qa : Addr} {sw : List SW} {w : SW} {H1 H3 : Hp} {u : Nat × Nat} {us : List (Nat × Nat)} (c : UCore H m x rs s p qa sw H1) (hu : usesN (rs.map Rl.d) s.bs rs.length = u :: us) (ew : w.2 = (u.1, s.bs.getD u.2 0)) (hw : H1 w.1 = some (.tup [vN w.2.1, vN w.2.2]))
    (s3 : Same (upd H1 qa (.lst ((sw.map fun w => V.ref w.1) ++ [V.ref w.1]))) H3) (hp' : (upd H1 qa (.lst ((sw.map fun w => V.ref w.1) ++ [V.ref w.1]))) p' = none) (hp3 : H3 p' = some (.lst ((stepS (rs.map Rl.d) s u).bs.map vN))) :
    UCore H m x rs (stepS (rs.map Rl.d) s u) p' qa (sw ++ [w]) H3 ∧ muS (stepS (rs.map Rl.d) s u).bs < muS s.bs := by
  rw [← rd_len] at hu
  obtain ⟨g, mu⟩ := step_good (m := m) (rs := rs.map Rl.d) (s := s) (u := u) c.good (by rw [hu]; exact List.mem_cons_self ..)
  have sH : Same H (upd H1 qa (.lst ((sw.map fun w => V.ref w.1) ++ [V.ref w.1]))) := c.same.own c.hq0
  refine ⟨⟨sH.trans s3, sH.none hp', hp3, Ne.symm (ne_of_none upd_same hp'), c.hq0, ?_, ?_, ?_, g, fun z h => c.run z (Run.step hu h), ?_⟩, mu⟩
  · rw [s3 _ _ upd_same, List.map_append]; rfl
  · refine ((c.st.put c.hq).snoc ?_).same s3
    rw [upd_ne (ne_of hw c.hq (by intro z; cases z))]
    exact hw
  · rw [List.map_append, c.est]
    show s.st ++ [w.2] = s.st ++ [(u.1, s.bs.getD u.2 0)]
    rw [ew]
  · rw [step_st]
    have := c.len
    omega
noncomputable def UInv (H : Hp) (m x : Nat) (rl : Addr) (rs : List Rl) (n : Nat) (σ : St) (H' : Hp) : Prop :=
  ∃ (s : US) (t p qa : Addr) (sw : List SW) (v : V), σ = [some (vN m), some (.ref rl), some (vN x), some (.ref t), some (.ref qa), some v] ∧ n = muS s.bs ∧ H' t = some (.tup [vN s.fx, .ref p]) ∧ UCore H m x rs s p qa sw H' ∧
    ((usesN (rs.map Rl.d) s.bs rs.length = [] ∧ v = .non) ∨ ∃ u us t5, usesN (rs.map Rl.d) s.bs rs.length = u :: us ∧ v = .ref t5 ∧ H' t5 = some (.tup [vN u.1, vN u.2]))
/-- what a use of the law's list gives -/
theorem uses_at {rs : List Rl} {bs : List Nat} {u : Nat × Nat} {m : Nat} {H : Hp} (hu : u ∈ usesN (rs.map Rl.d) bs rs.length) (hR : RulesAt H m rs) : ∃ r : Rl, rs[u.1]? = some r ∧ rdAt (rs.map Rl.d) u.1 = r.d ∧ u.2 < bs.length ∧ bs[u.2]? = some (bs.getD u.2 0) ∧ (RuleAt H r.r r.st r.x r.y ∧ r.x < 2 ^ m ∧ r.y < 2 ^ m) := by
  obtain ⟨h1, h2, _⟩ := mem_usesN hu
  have e : rs[u.1]? = some rs[u.1] := List.getElem?_eq_getElem h1
  exact ⟨rs[u.1], e, rd_at e, h2, by rw [List.getD_eq_getElem?_getD, List.getElem?_eq_getElem h2]; rfl, hR _ (List.getElem_mem h1)⟩
end L2

namespace L2
open PySem PySem.Spec PyProof.Rows
/-! ### what follows -/
theorem find_hit {f : Nat → Bool} {bs : List Nat} {i b : Nat} (h0 : (bs.take i).find? f = none) (e : bs[i]? = some b) (h : f b = true) : bs.find? f = some b := by
  have hi : i < bs.length := (List.getElem?_eq_some_iff.mp e).1
  have s := split_at hi
  have ebd : bs.getD i 0 = b := by rw [List.getD_eq_getElem?_getD, e]; rfl
  rw [s, List.find?_append, h0, ebd, List.find?_cons, h]
  rfl
theorem find_miss {f : Nat → Bool} {bs : List Nat} {i b : Nat} (h0 : (bs.take i).find? f = none) (e : bs[i]? = some b) (h : f b ≠ true) : (bs.take (i + 1)).find? f = none := by
  rw [List.take_succ, e, List.find?_append, h0]
  show (none : Option Nat).or ([b].find? f) = none
  rw [List.find?_cons]
  cases z : f b with
  | true => exact absurd z h
  | false => rfl
section
variable {X : Cx} {K : PySem.W.Frag}
end
end L2

namespace L2
/-! ### the settled columns, found by books of two rows -/
open PySem PySem.Spec PyProof.Rows
end L2

namespace L2
/-! ### what follows, told by the sets whose books keep the rules -/
noncomputable def HasB (a k : Nat) : Prop := a.testBit k = true
theorem hasb_or (a b k : Nat) : HasB (a ||| b) k ↔ HasB a k ∨ HasB b k := by unfold HasB; rw [Nat.testBit_or, Bool.or_eq_true]
theorem hasb_out (b y k : Nat) : HasB (b - (b &&& y)) k ↔ HasB b k ∧ ¬ HasB y k := by
  unfold HasB
  rw [tb_out, Bool.and_eq_true]
  cases y.testBit k <;> simp
theorem hasb_full {m x : Nat} (hx : x < 2 ^ m) (k : Nat) : HasB (2 ^ m - 1 - x) k ↔ k < m ∧ ¬ HasB x k := by
  unfold HasB
  rw [show 2 ^ m - 1 - x = 2 ^ m - (x + 1) by omega, Nat.testBit_two_pow_sub_succ hx, Bool.and_eq_true, decide_eq_true_iff]
  cases x.testBit k <;> simp
theorem hasb_lt {m a k : Nat} (ha : a < 2 ^ m) (h : HasB a k) : k < m := by
  apply Nat.lt_of_not_le
  intro le
  have : a.testBit k = false := Nat.testBit_lt_two_pow (Nat.lt_of_lt_of_le ha (Nat.pow_le_pow_right (by decide) le))
  unfold HasB at h
  rw [this] at h; cases h
end L2
namespace L2
/-! ### the rules of following -/
section
variable {m : Nat} {rs : List RD} {x y z v : Nat}
end
open PySem PySem.Spec PyProof.Rows
theorem RulesAt.put {H : Hp} {m : Nat} {rs : List Rl} {q : Addr} {xs ys : List V} (h : RulesAt H m rs) (hq : H q = some (.lst xs)) : RulesAt (upd H q (.lst ys)) m rs := fun r hr => by
  refine ⟨?_, (h r hr).2⟩
  have h1 := (h r hr).1
  unfold RuleAt at h1 ⊢
  rw [upd_ne (ne_of h1 hq (by intro z; cases z))]
  exact h1
end L2

namespace L2
/-! ### which sets are blocks; more rules -/
end L2
namespace L2
open PySem PySem.Spec PyProof.Rows
end L2

namespace L2
/-! ### covers -/
open PySem PySem.Spec PyProof.Rows
theorem cols_has : ∀ a, a < 128 → ∀ k, k < 8 → (k ∈ colsN a ↔ a.testBit k = true) := by decide +kernel
theorem cols_mem {a : Nat} (ha : a < 128) (k : Nat) : k ∈ colsN a ↔ HasB a k := by
  by_cases hk : k < 8
  · exact cols_has a ha k hk
  · constructor
    · intro h
      have h1 := List.mem_range.mp (List.mem_filter.mp h).1
      have h2 : bitsN a ≤ 7 := by
        unfold bitsN Builtin.Int.intBits
        split
        · omega
        · rename_i z
          have h0 : a ≠ 0 := by intro e; subst e; exact z rfl
          have : a.log2 < 7 := (Nat.log2_lt h0).mpr ha
          show (a : Int).natAbs.log2 + 1 ≤ 7
          rw [Int.natAbs_natCast]
          omega
      omega
    · intro h
      have := hasb_lt (m := 7) ha h
      omega
end L2

namespace L2
open PySem PySem.Spec PyProof.Rows
structure PR (K : PySem.W.Frag) (H : Hp) (st : Addr) (ns : List Int) (m : Nat) (g : Addr) (rs : List Rl) (k : Nat) (H' : Hp) : Prop where
  at_ : RulesAt H' m rs
  hg : H' g = some (.lst (rs.map fun r => V.ref r.r))
  S : STF K H' st ns k
  B : But st H H'
  hg0 : H g = none
  hgs : g ≠ st
end L2

namespace L2
open PySem PySem.Spec PyProof.Rows
/-! ### sorted(.., reverse=True) of what stands so already: one run, of any length -/
section
variable {prog : Program} {w : World} {A : Around} {E : Value → Shared → Prop} {s : Shared} {a₀ : Array Keyed} {κ : KeyKind}
end
section
variable {X : Cx} {K : PySem.W.Frag}
end
end L2

namespace L2
open PySem PySem.Spec PyProof.Rows
/-! ### a rule in a list of rules; covers say the same (k42) -/
section
variable {X : Cx} {K : PySem.W.Frag}
end
end L2

namespace L2
/-! ### any steps lead to the same blocks -/
open PySem PySem.Spec PyProof.Rows
theorem ints_dv {K : PySem.W.Frag} {H : Hp} : ∀ ms : List Int, DVs K H (ms.map V.int) (ms.map PyData.int)
  | [] => .nil
  | m :: ms => .cons (.int m) (ints_dv ms)
theorem sameI (a b : Int) : same (.int a) (.int b) = decide (a = b) := by
  by_cases h : a = b <;> simp [same, h]
end L2

namespace L2
open PySem PySem.Spec PyProof.Rows
/-! ### all blocks at once -/
/-! ### covers, rule by rule -/
end L2

namespace L2
open PySem PySem.Spec PyProof.Rows
/-! ### two lists walked side by side -/
section
variable {X : Cx} {pins : List (Addr × Obj)} {σ : St} {H : Hp} {s : Shared}
end
end L2

namespace L2
open PySem PySem.Spec PyProof.Rows
/-! ### covers told exactly -/
end L2

namespace L2
open PySem PySem.Spec PyProof.Rows
end L2

namespace L2
open PySem PySem.Spec PyProof.Rows
/-! ### a comprehension whose one name is a cell of its own (a comprehension within it captures the name) -/
section
variable {X : Cx} {pins : List (Addr × Obj)} {σ : St} {H : Hp} {s : Shared} {x0 : Str} {sc : Scope} {ex : List Addr}
end
section
variable {X : Cx} {pins : List (Addr × Obj)} {σ : St} {H : Hp} {s2 : Shared} {tg iter elt : Expr} {ifs : List Expr} {sc : Scope} {pos : Pos} {x0 : Str} {g : TG} {tc : TT} {te : TE} {J : It} {fp : List Addr} {it : Addr} {tn : Nat → Heap → Prop}
end
section
variable {X : Cx} {tg iter elt : Expr} {ifs : List Expr} {sc : Scope} {pos : Pos} {x0 : Str} {wi : TI} {g : TG} {tc : TT} {te : TE}
end
end L2

namespace L2
open PySem PySem.Spec PyProof.Rows
/-! ### a lambda's body: its context, its first state, its call -/
noncomputable abbrev owC (o : Bool) (x0 : Str) (a : Addr) (cl : List (Str × Addr)) : List (Str × Addr) := cond o ((x0, a) :: cl) cl
noncomputable abbrev owN (o : Bool) (x0 : Str) (N : List Str) : List Str := cond o (x0 :: N) N
structure LScope (X : Cx) (o : Bool) (x0 : Str) (sc : Scope) : Prop where
  kind : sc.kind = .function
  co : sc.isCoroutine = false
  gen : sc.isGenerator = false
  own : o = true → sc.names.lookup x0 = some .cell
  only : ∀ y ∈ sc.names, y.2 = .cell → o = true ∧ y.1 = x0
  nol : ∀ y ∈ sc.names, y.2 ≠ .local
  frees : ∀ y ∈ sc.names, y.2 = .free → X.env.kindOf y.1 = some .cell ∨ X.env.kindOf y.1 = some .free
  laid : ∀ a cl, cellsFrom a sc.names cl = owC o x0 a cl
  push : ∀ h : Heap, pushCells h sc.names = cond o (h.push { cls := .type "cell", data := .cell none }) h
  nd : (owN o x0 X.N).Nodup
noncomputable abbrev lamEnv (qual : Str) (sc : Scope) (cells : List (Str × Addr)) (L f : Addr) (cd : Value) : Env := newEnv sc L mainGlobals cells (qual ++ ".<locals>.") (some f) cd none builtinsNs
section
variable {X : Cx} {pins : List (Addr × Obj)} {σ : St} {H : Hp} {s : Shared} {o : Bool} {x0 qual : Str} {sc : Scope} {f : Addr} {cd : Value} {A : Around} {xe : Value → Shared → Prop}
theorem LScope.free_of (S : LScope X o x0 sc) {x : Str} (h : Vis sc x) (ne : o = true → x ≠ x0) : (x, NameKind.free) ∈ sc.names ∧ sc.names.lookup x = some .free := by
  rcases h with h | h | h
  · exact absurd rfl (S.nol _ (PySem.mem_of_lookup h))
  · obtain ⟨a, b⟩ := S.only _ (PySem.mem_of_lookup h) rfl
    exact absurd b (ne a)
  · exact ⟨PySem.mem_of_lookup h, h⟩
/-- the frame and the own cell are laid -/
theorem newEnvL {M : Model} {E : Value → Shared → Prop} {cl : List (Str × Addr)} {binds : List (Str × Value)} {Q : Env → Shared → Prop} (laid : ∀ a cl, cellsFrom a sc.names cl = owC o x0 a cl) (push : ∀ h : Heap, pushCells h sc.names = cond o (h.push { cls := .type "cell", data := .cell none }) h)
    (hQ : wpAny M A (forIn binds PUnit.unit (fun (p : Str × Value) (_ : PUnit) => do storeName (lamEnv qual sc (owC o x0 (s.heap.objs.size + 1) cl) s.heap.objs.size f cd) p.1 p.2; pure (ForInStep.yield PUnit.unit))) (fun _ s' => Q (lamEnv qual sc (owC o x0 (s.heap.objs.size + 1) cl) s.heap.objs.size f cd) s') E
      { s with heap := cond o ((s.heap.push { cls := .type "frame", data := .dict #[] }).push { cls := .type "cell", data := .cell none }) (s.heap.push { cls := .type "frame", data := .dict #[] }) }) :
    wpAny M A (newFunctionEnv sc mainGlobals cl binds (qual ++ ".<locals>.") (some f) cd none builtinsNs) Q E s := by
  have fs : (s.heap.push { cls := .type "frame", data := .dict #[] }).objs.size = s.heap.objs.size + 1 := Heap.size_push ..
  unfold newFunctionEnv
  refine wpAny_bind (wpAny_alloc (wpAny_bind (wpAny_layCells _ (fun name kind cells => ?_) _ _ _ _ ?_)))
  · cases kind <;> rfl
  · show wpAny M A _ Q E { s with heap := pushCells (s.heap.push { cls := .type "frame", data := .dict #[] }) sc.names }
    dsimp only
    rw [laid, push]
    show wpAny M A (_ >>= _) Q E _
    rw [show ({ s with heap := s.heap.push { cls := .type (if (none : Option Env).isSome = true then "dict" else "frame"), data := .dict #[] } } : Shared).heap.objs.size = _ from fs]
    exact wpAny_bind (wpAny_mono hQ (fun _ s' h => wpAny_pure h) fun _ _ h => h)
end
end L2

namespace L2
open PySem PySem.Spec PyProof.Rows
/-! ### a lambda is made: the table of the def's code grows, or knows it already -/
noncomputable def BMod (mg : Str → Option Value) (base : Heap) : Prop := ∃ bm ob, mg "__builtins__" = some (.ref bm) ∧ bm ≠ builtinsNs ∧ base.get? bm = some ob ∧ ob.cls = .type "module" ∧ ob.dict = some builtinsNs ∧ ob.data = .plain
noncomputable def codeO (c : Addr) (qual : Str) : HO := .ext fun h => ∃ oc vs t, h.get? c = some oc ∧ oc.data = .fields vs ∧ vs[1]? = some (.str qual t)
noncomputable def lamO (f : Addr) (qual : Str) (params : Arguments) (body : Expr) (sc : Scope) (cl : List (Str × Addr)) (c : Addr) : HO := .ext fun h => ∃ pm ctv, h.get? f = some (PySem.W.kla_obj "<lambda>" qual params body sc cl pm c ctv)
noncomputable def tabV : List (Nat × Nat × Addr) → List Value
  | [] => []
  | e :: r => rawInt e.1 :: rawInt e.2.1 :: .ref e.2.2 :: tabV r
theorem tabV_app : ∀ (es fs : List (Nat × Nat × Addr)), tabV (es ++ fs) = tabV es ++ tabV fs
  | [], _ => rfl
  | e :: r, fs => by show _ :: _ :: _ :: tabV (r ++ fs) = _; rw [tabV_app r fs]; rfl
theorem tabV_ok : ∀ es : List (Nat × Nat × Addr), TriplesOk (tabV es)
  | [] => trivial
  | e :: r => tabV_ok r
theorem tabV_look (pos : Pos) : ∀ es : List (Nat × Nat × Addr), codeAmong pos (tabV es) = none ∨ ∃ e ∈ es, codeAmong pos (tabV es) = some (.ref e.2.2)
  | [] => .inl rfl
  | e :: r => by
    have u : codeAmong pos (tabV (e :: r)) = if ((e.1 : Int) == pos.line && (e.2.1 : Int) == pos.col) = true then some (.ref e.2.2) else codeAmong pos (tabV r) := rfl
    by_cases h : ((e.1 : Int) == pos.line && (e.2.1 : Int) == pos.col) = true
    · exact .inr ⟨e, List.mem_cons_self, by rw [u, if_pos h]⟩
    · rw [u, if_neg h]
      rcases tabV_look pos r with z | ⟨d, hd, z⟩
      · exact .inl z
      · exact .inr ⟨d, List.mem_cons_of_mem _ hd, z⟩
/-- the table at P of a def whose lambdas are all called qual -/
noncomputable def TabAt (P : Addr) (qual : Str) (H : Hp) : Prop := ∃ es : List (Nat × Nat × Addr), H P = some (.tbl (tabV es).toArray) ∧ ∀ e ∈ es, H e.2.2 = some (codeO e.2.2 qual)
theorem TabAt.nil {P : Addr} {qual : Str} {H : Hp} (h : H P = some (.tbl #[])) : TabAt P qual H := ⟨[], h, fun _ z => nomatch z⟩
theorem TabAt.same {P : Addr} {qual : Str} {H H' : Hp} (h : TabAt P qual H) (s : Same H H') : TabAt P qual H' := let ⟨es, a, b⟩ := h; ⟨es, s _ _ a, fun e he => s _ _ (b e he)⟩
theorem TabAt.but {P d : Addr} {qual : Str} {H H' : Hp} (h : TabAt P qual H) (s : But d H H') (hd : ∀ o, H d = some o → (∀ ps, o ≠ .tbl ps) ∧ ∀ φ, o ≠ .ext φ) : TabAt P qual H' := by
  obtain ⟨es, a, b⟩ := h
  refine ⟨es, s _ _ a fun z => ?_, fun e he => s _ _ (b e he) fun z => ?_⟩
  · rw [z] at a; exact (hd _ a).1 _ rfl
  · have b' := b e he
    rw [z] at b'
    exact (hd _ b').2 _ rfl
noncomputable def tLam (P : Addr) (qual : Str) (params : Arguments) (body : Expr) (sc : Scope) (cl : List (Str × Addr)) : TE := fun σ H Q => TabAt P qual H ∧
  ∀ f c H', But P H H' → TabAt P qual H' → H f = none → H' f = some (lamO f qual params body sc cl c) → H' c = some (codeO c qual) → Q (.ref f) H'
section
variable {X : Cx} {c P : Addr} {params : Arguments} {body : Expr} {sc : Scope} {pos : Pos} {qual : Str}
theorem codeO_ok {w : World} {p : Program} {H : Hp} {h : Heap} {c : Addr} {qual : Str} (hr : h.CodeRec (.ref c) qual) : ObjOk p w H h c (codeO c qual) := by
  obtain ⟨c', oc, vs, t, e, h1, h2, h3⟩ := hr
  cases e
  exact ⟨⟨oc, vs, t, h1, h2, h3⟩, ⟨oc, h1⟩, fun h1 h2 ⟨oc, vs, t, a, b⟩ k => ⟨oc, vs, t, k _ a, b⟩⟩
theorem codeO_rec {w : World} {p : Program} {H : Hp} {h : Heap} {c : Addr} {qual : Str} (x : ObjOk p w H h c (codeO c qual)) : h.CodeRec (.ref c) qual := by
  obtain ⟨⟨oc, vs, t, h1, h2, h3⟩, _⟩ := x
  exact ⟨c, oc, vs, t, rfl, h1, h2, h3⟩
theorem Un.grow {fs ex : List Addr} {H : Hp} {h h' : Heap} {c P : Addr} {o : HO} {ps more : Array Value} (hP : H P = some (.tbl ps)) (hx : Heap.ExtBut P h h') (hp : ∃ o', h'.get? P = some o') (hc : h.objs.size ≤ c) (hn : H c = none) :
    Un fs ex H (upd (upd H P (.tbl (ps ++ more))) c o) h h' where
  keep := fun b u q n _ _ => hx b u (fun z => by rw [z, hP] at n; cases n) q
  slot := fun b u q n _ _ => ⟨u.slots, hx b u (fun z => by rw [z, hP] at n; cases n) q⟩
  free := fun b u q n _ => by rw [upd_ne (Nat.ne_of_lt (Nat.lt_of_lt_of_le (Heap.lt_size q) hc)), upd_ne (fun z => by rw [z, hP] at n; cases n)]; exact n
  there := fun b u q _ => by
    by_cases z : b = P
    · rw [z]; exact hp
    · exact ⟨u, hx b u z q⟩
  tups := fun b xs q => by rw [upd_ne (ne_of_none q hn), upd_ne (ne_of q hP (fun z => nomatch z))]; exact q
  frzs := fun b u xs q => by rw [upd_ne (ne_of_none q hn), upd_ne (ne_of q hP (fun z => nomatch z))]; exact q
  tbls := fun b qs q => by
    by_cases z : b = P
    · subst z
      rw [hP] at q
      cases q
      exact ⟨more, by rw [upd_ne (ne_of_none hP hn), upd_same]⟩
    · exact ⟨#[], by rw [upd_ne (ne_of_none q hn), upd_ne z, q]; simp⟩
theorem pe_lam (hcode : X.env.code = .ref c) (C : PySem.W.CodeHd X.base c P) (hbm : BMod X.mg X.base) (hq : X.env.qual ++ "<lambda>" = qual) (hfr : ∀ y ∈ sc.names, y.2 = .free → X.env.kindOf y.1 = some .cell ∨ X.env.kindOf y.1 = some .free)
    (hdef : defaultsOf params X.env = ([], []) := by rfl) : PE X (.Lambda params body sc pos) (tLam P qual params body sc (clF X.env.cells sc.names [])) := by
  intro pins s σ H Q I h
  obtain ⟨⟨es, hP, hes⟩, q⟩ := h
  have hcl : closureFor sc X.env = pure (clF X.env.cells sc.names []) := closure_eq fun n hn => I.ok.has n (hfr _ hn rfl)
  have hPh : s.heap.get? P = some (PySem.W.tabObj (tabV es).toArray) := I.hok P _ hP
  have hg : s.heap.Ns mainGlobals X.mg := I.ok.mod.glob.keeps I.bk
  have hgP : mainGlobals ≠ P := fun z => by
    obtain ⟨o, _, _, e, _⟩ := I.ok.mod.glob
    have := (I.bs _ _ e).2
    rw [z, hP] at this
    cases this
  obtain ⟨bm, ob, b1, b2, b3, b4, b5, b6⟩ := hbm
  have n1 : bm ≠ mainGlobals := fun z => by
    obtain ⟨o, _, _, e, d, _⟩ := I.ok.mod.glob
    rw [z, e] at b3
    cases b3
    rw [d] at b6
    cases b6
  have n2 : bm ≠ P := fun z => by
    have := (I.bs _ _ b3).2
    rw [z, hP] at this
    cases this
  have hb : s.heap.BuiltinsAt X.mg P := ⟨bm, ob, b1, b2, n1, n2, I.bk _ _ b3, b4, b5, b6⟩
  have hge : X.env.globals = mainGlobals := I.ok.glob
  refine PySem.W.kla_eval hdef ?_
  rw [hq]
  have hok : TriplesOk (tabV es).toArray.toList := by rw [List.toList_toArray]; exact tabV_ok es
  rcases tabV_look pos es with hn | ⟨e, he, hit⟩
  · refine PySem.W.kla_makeFunction (mg := X.mg) hcl hge hg hcode (C.keeps I.bk) hPh hok (by rw [List.toList_toArray]; exact hn) hgP hb fun c' ctv h' tk hx hge' hlt hrec htb => ?_
    have hc' : H c' = none := I.hok.fresh hge'
    have nP : P ≠ c' := ne_of_none hP hc'
    have eP : (tabV es).toArray ++ #[rawInt pos.line, rawInt pos.col, .ref c'] = (tabV (es ++ [(pos.line, pos.col, c')])).toArray := by
      rw [tabV_app]; simp [tabV]
    have un : Un X.fs [] H (upd (upd H P (.tbl ((tabV es).toArray ++ #[rawInt pos.line, rawInt pos.col, .ref c']))) c' (codeO c' qual)) s.heap h' := Un.grow hP hx ⟨_, htb⟩ hge' hc'
    have ok1 : HOk X.prog X.w (upd (upd H P (.tbl ((tabV es).toArray ++ #[rawInt pos.line, rawInt pos.col, .ref c']))) c' (codeO c' qual)) h' := fun b u e => by
      by_cases zc : b = c'
      · subst zc
        rw [upd_same] at e
        cases e
        exact codeO_ok hrec
      rw [upd_ne zc] at e
      by_cases zp : b = P
      · subst zp
        rw [upd_same] at e
        cases e
        exact htb
      rw [upd_ne zp] at e
      refine (I.hok b u e).stay (fun d v hd k => hx d v ?_ k) (fun d k => ?_) fun d xs k => ?_
      · rcases hd with rfl | hd
        · exact zp
        · exact ne_of hd hP fun z => nomatch z
      · rw [upd_ne (ne_of_none k hc'), upd_ne (ne_of k hP fun z => nomatch z)]; exact k
      · rw [upd_ne (ne_of_none k hc'), upd_ne (ne_of k hP fun z => nomatch z)]; exact k
    have I1 := I.un (t' := tk) un ok1
    have hf : (upd (upd H P (.tbl ((tabV es).toArray ++ #[rawInt pos.line, rawInt pos.col, .ref c']))) c' (codeO c' qual)) h'.objs.size = none := I1.hok.fresh (Nat.le_refl _)
    have I2 := I1.laid (a := h'.objs.size) (t' := tk) (o := lamO h'.objs.size qual params body sc (clF X.env.cells sc.names []) c') (h' := h'.push (PySem.W.kla_obj "<lambda>" qual params body sc (clF X.env.cells sc.names []) ((X.mg "__name__").getD .none) c' ctv)) (fun b u e => Heap.get?_push_of_some _ e) (Nat.le_refl _)
      ⟨⟨_, _, Heap.get?_push_size _ rfl⟩, ⟨_, Heap.get?_push_size _ rfl⟩, fun h1 h2 ⟨pm, ctv, a⟩ k => ⟨pm, ctv, k _ a⟩⟩
    refine ⟨.ref h'.objs.size, _, I2, rfl, q h'.objs.size c' _ (fun b u e n => ?_) ⟨es ++ [(pos.line, pos.col, c')], ?_, fun e he => ?_⟩ ?_ upd_same ?_⟩
    · have e1 : (upd (upd H P (.tbl ((tabV es).toArray ++ #[rawInt pos.line, rawInt pos.col, .ref c']))) c' (codeO c' qual)) b = some u := by rw [upd_ne (ne_of_none e hc'), upd_ne n]; exact e
      rw [upd_ne (ne_of_none e1 hf)]; exact e1
    · rw [upd_ne (Nat.ne_of_lt (I1.hok.lt (o := .tbl ((tabV es).toArray ++ #[rawInt pos.line, rawInt pos.col, .ref c'])) (by rw [upd_ne nP, upd_same]))), upd_ne nP, upd_same, eP]
    · rcases List.mem_append.mp he with he | he
      · have e1 : (upd (upd H P (.tbl ((tabV es).toArray ++ #[rawInt pos.line, rawInt pos.col, .ref c']))) c' (codeO c' qual)) e.2.2 = some (codeO e.2.2 qual) := by
          rw [upd_ne (ne_of_none (hes e he) hc'), upd_ne (ne_of (hes e he) hP fun z => nomatch z)]; exact hes e he
        rw [upd_ne (ne_of_none e1 hf)]; exact e1
      · obtain rfl := List.mem_singleton.mp he
        show upd _ h'.objs.size _ c' = _
        rw [upd_ne (Nat.ne_of_lt hlt), upd_same]
    · cases z : H h'.objs.size with
      | none => rfl
      | some u => exact absurd (Nat.lt_of_lt_of_le (I.hok.lt z) (Nat.le_trans hge' (Nat.le_of_lt hlt))) (Nat.lt_irrefl _)
    · rw [upd_ne (Nat.ne_of_lt hlt), upd_same]
  · refine PySem.W.kla_makeFunctionHit (mg := X.mg) hcl hge hg hcode (C.keeps I.bk) hPh hok (by rw [List.toList_toArray]; exact hit) hb fun ctv h' tk hk hsz => ?_
    have I1 : Inv X pins σ H { s with heap := h', toks := tk } := I.kept hk
    have hf : H h'.objs.size = none := I1.hok.fresh (Nat.le_refl _)
    have I2 := I1.laid (a := h'.objs.size) (t' := tk) (o := lamO h'.objs.size qual params body sc (clF X.env.cells sc.names []) e.2.2) (h' := h'.push (PySem.W.kla_obj "<lambda>" qual params body sc (clF X.env.cells sc.names []) ((X.mg "__name__").getD .none) e.2.2 ctv)) (fun b u e => Heap.get?_push_of_some _ e) (Nat.le_refl _)
      ⟨⟨_, _, Heap.get?_push_size _ rfl⟩, ⟨_, Heap.get?_push_size _ rfl⟩, fun h1 h2 ⟨pm, ctv, a⟩ k => ⟨pm, ctv, k _ a⟩⟩
    have sm : Same H (upd H h'.objs.size (lamO h'.objs.size qual params body sc (clF X.env.cells sc.names []) e.2.2)) := Same.new hf
    exact ⟨.ref h'.objs.size, _, I2, rfl, q h'.objs.size e.2.2 _ sm.but (TabAt.same ⟨es, hP, hes⟩ sm) hf upd_same (sm _ _ (hes e he))⟩
end
section
variable {X : Cx} {pins : List (Addr × Obj)} {σ : St} {H : Hp} {s : Shared} {o : Bool} {x0 qual : Str} {sc : Scope} {f c : Addr} {A : Around} {params : Arguments} {body : Expr} {te : TE} {Q : VK}
end
end L2

namespace L2
open PySem PySem.Spec PyProof.Rows
/-! ### the laws of cuts: their rules and parts; a cut in two -/
section
variable {K : PySem.W.Frag} {H H1 H2 : Hp} {st g p : Addr} {ns : List Int} {m k k' : Nat} {rs rs' : List Rl} {o : HO} {ys : List V}
theorem PR.take (R : PR K H st ns m g rs k H1) (S : STF K H2 st ns k') (B : But st H1 H2) : PR K H st ns m g rs k' H2 :=
  ⟨fun r hr => ⟨stf_tup R.S B (R.at_ r hr).1, (R.at_ r hr).2⟩, B _ _ R.hg R.hgs, S, R.B.trans B, R.hg0, R.hgs⟩
theorem PR.new (R : PR K H st ns m g rs k H1) (hp : H1 p = none) : PR K H st ns m g rs k (upd H1 p o) :=
  ⟨R.at_.same (Same.new hp), Same.new hp _ _ R.hg, R.S.new hp, R.B.trans (But.new hp), R.hg0, R.hgs⟩
theorem PR.put (R : PR K H st ns m g rs k H1) (h : RulesAt H1 m rs') (e : ys = rs'.map fun r => V.ref r.r) : PR K H st ns m g rs' k (upd H1 g (.lst ys)) :=
  ⟨h.put R.hg, by rw [upd_same, e], R.S.put R.hg R.hgs, R.B.own R.hg0, R.hg0, R.hgs⟩
end
noncomputable def spThin (K : PySem.W.Frag) : Sp := fun vs H Q _ => ∃ (st : Addr) (ns : List Int) (k m : Nat), vs = [.ref st, vN m] ∧ STF K H st ns k ∧ k ≤ 900000 ∧ ns.length ≤ 63 ∧ 1 ≤ m ∧ m ≤ 7 ∧
  ∀ (r k' : Nat) (H' : Hp), r < 2 ^ m → k' ≤ k + 4 → STF K H' st ns k' → But st H H' → Q (vN r) H'
noncomputable def spTRules (K : PySem.W.Frag) : Sp := fun vs H Q _ => ∃ (st : Addr) (ns : List Int) (k m : Nat), vs = [.ref st, vN m] ∧ STF K H st ns k ∧ k ≤ 1000 ∧ ns.length ≤ 63 ∧ 1 ≤ m ∧ m ≤ 7 ∧
  ∀ (rs : List Rl) (p : Addr) (k' : Nat) (H' : Hp), PR K H st ns m p rs k' H' → rs.length ≤ 12 → k' ≤ k + 200 → Q (.ref p) H'
theorem bits_eq {a b : Nat} (h : ∀ k, HasB a k ↔ HasB b k) : a = b := Nat.eq_of_testBit_eq fun k => by
  rw [Bool.eq_iff_iff]; exact h k
theorem hasb_all {m : Nat} (k : Nat) : HasB (2 ^ m - 1) k ↔ k < m := by
  have h0 : (0 : Nat) < 2 ^ m := Nat.two_pow_pos m
  have h := hasb_full h0 k
  rw [Nat.sub_zero] at h
  rw [h]
  exact ⟨fun z => z.1, fun z => ⟨z, fun w => by unfold HasB at w; rw [Nat.zero_testBit] at w; cases w⟩⟩
theorem or_full {m x y : Nat} (hx : x < 2 ^ m) (hy : y < 2 ^ m) (h : ∀ k, k < m → HasB x k ∨ HasB y k) : x ||| y = 2 ^ m - 1 := bits_eq fun k => by
  rw [hasb_or, hasb_all]
  exact ⟨fun z => z.elim (hasb_lt hx) (hasb_lt hy), h k⟩
/-- a block with columns out of the one part and out of the other -/
noncomputable def tornB (x y b : Nat) : Bool := !decide (b &&& x = b) && !decide (b &&& y = b)
noncomputable def CutV (H : Hp) (x y : Nat) (s : US) (t : Addr) : Prop :=
  (∃ b, s.bs.find? (tornB x y) = some b ∧ H t = some (.tup [.str "unsafe", vN b])) ∨
  (s.bs.find? (tornB x y) = none ∧ ∃ (q : Addr) (sw : List SW), H q = some (.lst (sw.map fun w => V.ref w.1)) ∧ StepsAt H sw ∧ sw.map (·.2) = s.st ∧ sw.length ≤ 300 ∧ H t = some (.tup [.str "safe", .ref q]))
noncomputable def spTorn (K : PySem.W.Frag) : Sp := fun vs H Q _ => ∃ (l : Addr) (x y : Nat) (bs : List Nat), vs = [.ref l, vN x, vN y] ∧ SqL K H l (bs.map vN) ∧
  (bs.find? (tornB x y) = none → Q .non H) ∧ ∀ b, bs.find? (tornB x y) = some b → Q (vN b) H
noncomputable def spCut (K : PySem.W.Frag) (a : Nat → V) : Sp := fun vs H Q _ => ∃ (m x y : Nat) (rl : Addr) (rs : List Rl), vs = [a m, .ref rl, vN x, vN y] ∧ m ≤ 7 ∧ x < 2 ^ m ∧ y < 2 ^ m ∧ x ||| y = 2 ^ m - 1 ∧ SqL K H rl (rs.map fun r => V.ref r.r) ∧ RulesAt H m rs ∧ rs.length ≤ 200 ∧
  ∀ (s : US) (t : Addr) (H' : Hp), Run (rs.map Rl.d) ⟨x &&& y, beginBs m (x &&& y), []⟩ s → Same H H' → CutV H' x y s t → (∀ q, H' t = some (.tup [.str "safe", .ref q]) → H q = none) → Q (.ref t) H'
end L2

namespace L2
open PySem PySem.Spec PyProof.Rows
/-! ### exceptions: how one lies behind a call, a def that raises, a def that lets one through -/
theorem ho_there {P : Program} {w : World} {H : Hp} {h : Heap} {a : Addr} {o : HO} (x : ObjOk P w H h a o) : ∃ ob, h.get? a = some ob := by
  cases o with
  | lst xs => obtain ⟨_, _, _, _, e⟩ := x; exact ⟨_, e⟩
  | tup xs => obtain ⟨_, _, _, ob, e, _⟩ := x; exact ⟨_, e⟩
  | dK kvs => obtain ⟨_, _, _, _, o, _, _, e, _⟩ := x; exact ⟨_, e⟩
  | dT kvs => obtain ⟨_, _, _, _, o, _, _, e, _⟩ := x; exact ⟨_, e⟩
  | set S n => obtain ⟨o, _, _, _, e, _⟩ := x; exact ⟨_, e⟩
  | ins C dx fs => obtain ⟨_, _, _, e, _⟩ := x; exact ⟨_, e⟩
  | own y => exact x
  | xd fs => obtain ⟨_, ⟨_, _, _, e, _⟩, _⟩ := x; exact ⟨_, e⟩
  | rng lo hi => obtain ⟨_, _, _, e⟩ := x; exact ⟨_, e⟩
  | frz ob u => exact ⟨_, x.1⟩
  | tbl ps => exact ⟨_, x⟩
  | met f y => exact ⟨_, x⟩
  | ext φ => exact x.2.1
/-- an exception under way: ea of the class at C; B is what stays as it is, all that is tracked in it -/
structure Fly (P : Program) (w : World) (outer : List Env) (H H' : Hp) (s s' : Shared) (ea C : Addr) (B : Heap) : Prop where
  os : s'.os = s.os
  bare : AllBare s'.gens
  un : Un (frs outer) [] H H' s.heap s'.heap
  hok : HOk P w H' B
  inB : ∀ b o, s.heap.get? b = some o → H b = none → b ∉ frs outer → B.get? b = some o
  ex : ∀ b o, s.heap.get? b = some o → b ∉ frs outer → ∃ o', B.get? b = some o'
  fly : ∃ a0, Heap.FlyingW B outer ea (.ref C) a0 s'.heap
theorem Fly.fresh {P : Program} {w : World} {outer : List Env} {H H' : Hp} {s s' : Shared} {ea C : Addr} {B : Heap} (F : Fly P w outer H H' s s' ea C B) : H' ea = none := by
  obtain ⟨a0, f⟩ := F.fly
  cases q : H' ea with
  | none => rfl
  | some o =>
    obtain ⟨ob, e⟩ := ho_there (F.hok ea o q)
    rw [f.2.1] at e
    cases e
noncomputable def CX1 (P : Program) (w : World) : CXT := fun outer H s E e s' => ∃ ea C B H', e = .ref ea ∧ Fly P w outer H H' s s' ea C B ∧ E (.ref C) none H'
section
variable {P : Program} {w : World} {K : PySem.W.Frag} {mg : Str → Option Value} {base : Heap} {N : List Str} {qual : Str} {scope : Scope} {f : Addr} {cd : Value} {A : Around} {outer : List Env} {s₀ : Shared} {H₀ : Hp} {E E' : XK}
theorem frs_cons {env : Env} {L : Addr} {l : List Env} (h : env.frame = some L) : frs (env :: l) = L :: frs l := by
  unfold frs
  rw [List.filterMap_cons, h]
/-- a def that raises -/
theorem raise_out {pins : List (Addr × Obj)} {σ : St} {H : Hp} {s : Shared} {h' : Heap} {e C : Addr} {vs : List Value} (I : Inv (cxOf (CX1 P w) P w K mg base N qual scope f cd A outer s₀ H₀ E) pins σ H s)
    (hx : Heap.MadeExcOf s.heap h' e (.ref C) vs) (hE : E (.ref C) none H) : (cxOf (CX1 P w) P w K mg base N qual scope f cd A outer s₀ H₀ E).xe (.ref e) { s with heap := h' } := by
  have hf : (envOfC qual scope s₀.heap.objs.size f cd).frame = some s₀.heap.objs.size := rfl
  have hfr : (A.deeper (envOfC qual scope s₀.heap.objs.size f cd)).frames = some (envOfC qual scope s₀.heap.objs.size f cd :: outer) := I.ok.frames
  have hst : s.heap.FunFrames base (envOfC qual scope s₀.heap.objs.size f cd :: outer) := I.stack
  have hl := PySem.W.funFrames_hide (as := frs (envOfC qual scope s₀.heap.objs.size f cd :: outer)) hst fun env he b hb => List.mem_filterMap.mpr ⟨env, he, hb⟩
  have nin : ∀ b o, s₀.heap.get? b = some o → b ∉ frs outer → b ∉ frs (envOfC qual scope s₀.heap.objs.size f cd :: outer) := fun b o q hb hm => by
    rw [frs_cons hf] at hm
    rcases List.mem_cons.mp hm with z | z
    · exact absurd (Heap.lt_size q) (by rw [z]; exact Nat.lt_irrefl _)
    · exact hb z
  refine wpAny_leaves_madeW (s := { s with heap := h' }) hfr hf (fun b o q => PySem.W.of_hideAll _ q) hl hx fun h2 t x1 x2 x3 x4 => ?_
  have base0 : Un (frs outer) [] H₀ H s₀.heap s.heap := I.base
  have slot : ∀ b o, s₀.heap.get? b = some o → H₀ b = none → b ∈ frs outer → ∃ sl, h2.get? b = some { o with slots := sl } := fun b o q n hb => by
    obtain ⟨sl, e1⟩ := base0.slot b o q n hb (by simp)
    obtain ⟨_, o', e2, hd⟩ := I.ok.funs.mem hb
    have q' : s₀.heap.get? b = some o' := e2
    rw [q] at q'
    cases q'
    obtain ⟨sl', e3⟩ := x4 b _ (hx.keeps _ _ e1) hd
    exact ⟨sl', e3⟩
  refine ⟨e, C, _, H, rfl, ⟨I.os, I.bare, ⟨fun b o q n hb hx' => ?_, fun b o q n hb _ => slot b o q n hb, base0.free, fun b o q hx' => ?_, base0.tups, base0.frzs, base0.tbls⟩, fun a o q => ?_, fun b o q n hb => ?_, fun b o q hb => ?_, ⟨_, x1⟩⟩, hE⟩
  · exact x1.1 b o (PySem.W.hideAll_get _ (base0.keep b o q n hb hx') (nin b o q hb))
  · by_cases hb : b ∈ frs outer
    · obtain ⟨sl, e1⟩ := slot b o q (I.ok.frf b hb) hb
      exact ⟨_, e1⟩
    · obtain ⟨o', e1⟩ := base0.there b o q hx'
      exact ⟨o', x1.1 _ _ (PySem.W.hideAll_get _ e1 (nin b o q hb))⟩
  · have nfr : ∀ b u, H b = some u → b ∉ frs (envOfC qual scope s₀.heap.objs.size f cd :: outer) := fun b u z hm => by
      have := I.stkFree b hm
      rw [z] at this
      cases this
    refine (I.hok a o q).stay (fun b u hb z => PySem.W.hideAll_get _ z ?_) (fun _ z => z) fun _ _ z => z
    rcases hb with rfl | hb
    · exact nfr _ _ q
    · exact nfr _ _ hb
  · exact PySem.W.hideAll_get _ (base0.keep b o q n hb (by simp)) (nin b o q hb)
  · obtain ⟨o', e1⟩ := base0.there b o q (by simp)
    exact ⟨o', PySem.W.hideAll_get _ e1 (nin b o q hb)⟩
/-- behind the exception, over the heap that a call began with -/
theorem Fly.over {X : Cx} {pins : List (Addr × Obj)} {σ : St} {H H' : Hp} {s s' : Shared} {ea C : Addr} {B h2 : Heap} (I : Inv X pins σ H s) (F : Fly X.prog X.w X.stack H H' s s' ea C B) (k1 : ∀ b o, B.get? b = some o → h2.get? b = some o) (k2 : s'.heap.UpToSlots h2) :
    Un (frs X.stack) [] H H' s.heap h2 := by
  have slot : ∀ b o, s.heap.get? b = some o → H b = none → b ∈ frs X.stack → ∃ sl, h2.get? b = some { o with slots := sl } := fun b o q n hb => by
    obtain ⟨sl, e1⟩ := F.un.slot b o q n hb (by simp)
    obtain ⟨_, o', e2, hd⟩ := I.stack.mem hb
    rw [q] at e2
    cases e2
    obtain ⟨sl', e3⟩ := k2 b _ e1 hd
    exact ⟨sl', e3⟩
  refine ⟨fun b o q n hb _ => k1 _ _ (F.inB b o q n hb), fun b o q n hb _ => slot b o q n hb, F.un.free, fun b o q _ => ?_, F.un.tups, F.un.frzs, F.un.tbls⟩
  by_cases hb : b ∈ frs X.stack
  · obtain ⟨sl, e1⟩ := slot b o q (I.stkFree b hb) hb
    exact ⟨_, e1⟩
  · obtain ⟨o', e1⟩ := F.ex b o q hb
    exact ⟨o', k1 _ _ e1⟩
/-- a def that lets one through -/
theorem pass1 (hEE : ∀ c H, E c none H → E' c none H) : Passes (CX1 P w) (cxOf (CX1 P w) P w K mg base N qual scope f cd A outer s₀ H₀ E') E := by
  rintro pins σ H s e s' I ⟨ea, C, B, H', rfl, F, hE⟩
  have hf : (envOfC qual scope s₀.heap.objs.size f cd).frame = some s₀.heap.objs.size := rfl
  have hfr : (A.deeper (envOfC qual scope s₀.heap.objs.size f cd)).frames = some (envOfC qual scope s₀.heap.objs.size f cd :: outer) := I.ok.frames
  obtain ⟨a0, fl⟩ := F.fly
  refine wpAny_leaves_onW hfr hf fl fun h2 x1 x4 => ?_
  have u := F.over (h2 := h2) I x1.1 x4
  have J : Inv (cxOf (CX1 P w) P w K mg base N qual scope f cd A outer s₀ H₀ E') pins σ H' { s' with heap := h2 } := I.call' (ch := []) F.os u (F.hok.kept x1.1) F.bare fun b hb => absurd hb (by simp)
  have base0 : Un (frs outer) [] H₀ H s₀.heap s.heap := I.base
  have nin : ∀ b o, s₀.heap.get? b = some o → b ∉ frs outer → b ∉ frs (envOfC qual scope s₀.heap.objs.size f cd :: outer) := fun b o q hb hm => by
    rw [frs_cons hf] at hm
    rcases List.mem_cons.mp hm with z | z
    · exact absurd (Heap.lt_size q) (by rw [z]; exact Nat.lt_irrefl _)
    · exact hb z
  refine ⟨ea, C, B, H', rfl, ⟨F.os.trans I.os, F.bare, J.base, F.hok, fun b o q n hb => ?_, fun b o q hb => ?_, ⟨a0, x1⟩⟩, hEE _ _ hE⟩
  · exact F.inB b o (base0.keep b o q n hb (by simp)) (base0.free b o q n (by simp)) (nin b o q hb)
  · obtain ⟨o', e1⟩ := base0.there b o q (by simp)
    exact F.ex b o' e1 (nin b o q hb)
end
end L2

namespace L2
open PySem PySem.Spec PyProof.Rows
/-! ### raise C(..), and try: f(..) except C as e: x = e -/
/-- the top's names are those that it has -/
theorem top_any {K : PySem.W.Frag} {mg : Str → Option Value} {base : Heap} (M : Mod K mg base) (p : Program) : ∃ loose mb, PySem.W.TopRead p loose mg mb base := by
  obtain ⟨mb, hb, hbb⟩ := M.blt
  obtain ⟨o, es, ep, ho, hd, hk, hf⟩ := id M.glob
  refine ⟨es.toList.filterMap fun e => match e.key with | .str x _ => some x | _ => none, mb, ⟨M.glob, hb, M.nolimit, hbb, fun x _ hx _ _ _ => ?_⟩⟩
  rw [← hf x]
  cases q : nsFind es x with
  | none => rfl
  | some v =>
    exfalso
    unfold nsFind findBy at q
    obtain ⟨e, he, _⟩ := Option.map_eq_some_iff.mp q
    have h1 := Array.mem_of_find?_eq_some he
    have h2 := Array.find?_some he
    obtain ⟨n, t, ek⟩ := hk e h1
    rw [ek] at h2
    have h3 : x = n := by
      simp only [Value.isStr] at h2
      exact (beq_iff_eq.mp h2).symm
    refine hx (List.mem_filterMap.mpr ⟨e, Array.mem_toList_iff.mpr h1, ?_⟩)
    rw [ek, h3]
/-- a class of one's own below ValueError that has no __init__ -/
structure Exc (K : PySem.W.Frag) (x : Str) (C : Addr) : Prop where
  ns : PySem.W.nsIn K mainGlobals x = some (some (.ref C))
  ex : PySem.W.excIn K C [.type "ValueError", .type "Exception", .type "BaseException", .type "object"] "ValueError.__new__" = true
section
variable {X : Cx} {x : Str} {C : Addr} {np cpos pos : Pos} {e : Expr} {es : List Expr} {t : TA} {EX : XK}
noncomputable def tRaise (EX : XK) (C : Addr) (t : TA) : TS := fun _ σ H => t σ H fun vs H1 => vs.length ≤ sizeLine ∧ EX (.ref C) none H1
theorem ps_raise (O : Exc X.K x C) (hg : Gl X x) (hc : X.calm = true) (ha : PA X (e :: es) t)
    (hout : ∀ (pins : List (Addr × Obj)) (σ : St) (H : Hp) (s : Shared) (h' : Heap) (ea : Addr) (vs : List Value), Inv X pins σ H s → Heap.MadeExcOf s.heap h' ea (.ref C) vs → EX (.ref C) none H → X.xe (.ref ea) { s with heap := h' })
    (hdb : (x == ("__debug__" : Str)) = false := by decide) (he : starEach (e :: es) X.env = (false, eval e X.env) :: starEach es X.env := by rfl) (hpl : (backTo cpos (starEach es X.env)).any (·.1) = false := by rfl) :
    PS X (.Raise (some (.Call (.Name x np) (e :: es) [] cpos)) none pos) (tRaise EX C t) := by
  intro pins s σ H D I h
  obtain ⟨loose, mb, T⟩ := top_any I.ok.mod X.prog
  have W := PySem.W.own_of_in I.ok.mod.kin T O.ns O.ex
  obtain ⟨tl, N, nm, q, bs, hdct, sn, sub, ab, col, dd, k0, k1, k2, k3, k5, mN, hC, hN, hni, TL⟩ := W.obj
  refine wpAny_Raise_call_subT (nm := nm) (q := q) (N := N) (bs := bs) (hdct := hdct) (sn := sn) (sub := sub) (ab := ab) (col := col) (dd := dd) (k0 := k0) (k1 := k1) (k2 := k2) (k3 := k3) (k5 := k5) PySem.F.excBase_ValueError (mN := mN) (TL.hasType PySem.F.excBase_ValueError.hasBase) (I.ok.hd hc) (by rw [he]; show (false || (backTo cpos (starEach es X.env)).any (·.1)) = false; rw [hpl]; rfl) hni (ld_glob I hg W.bound ⟨rfl, ?_⟩ hdb)
  have h1 := ha cpos pins s σ H _ I h
  rw [he] at h1 ⊢
  refine Calls.evalArgs_plain (thn h1 fun us s1 ⟨vs, H1, I1, r, hz, q⟩ => ⟨rfl, by rw [← r.length]; exact hz, I1.bk _ _ hC, hN.keeps I1.bk, TL.keeps I1.bk, fun h' ea hm => hout pins σ H1 s1 h' ea us I1 hm q⟩)
end
/-! f-strings of two and three parts with one whole number -/
section
variable {X : Cx} {a b : Str} {e : Expr} {te : TE} {j1 j2 : Nat} {p1 p2 p3 pos : Pos}
noncomputable def tFs (te : TE) : TE := fun σ H Q => te σ H fun v H1 => ∃ i : Int, v = .int i ∧ i.natAbs.log2 < 1920 ∧ ∀ x, Q (.str x) H1
theorem fs_len {out : Str} {i : Int} (h1 : out.length ≤ 1000) (h2 : i.natAbs.log2 < 1920) : (out ++ Str.ofString (toString i)).length ≤ 3000 := by
  rw [strLen_append, PySem.ofString_length]
  have := int_text_length_le (k := 1920) (by decide) h2
  omega
theorem small_line {n : Nat} (h : n ≤ 5000) : n ≤ sizeLine := Nat.le_trans h (by decide)
theorem empty_cat (a : Str) (h : a.length ≤ 1000) : (Str.empty ++ a).length ≤ 1000 := by
  rw [strLen_append]
  show 0 + a.length ≤ 1000
  omega
theorem pe_fs3 (he : PE X e te) (h1 : a.length ≤ 1000 := by decide) (h2 : b.length ≤ 1000 := by decide) : PE X (.JoinedStr [.Constant (.str a) j1 p1, .FormattedValue e (-1) none p2, .Constant (.str b) j2 p3] pos) (tFs te) := by
  intro pins s σ H Q I h
  have hz := empty_cat a h1
  refine JoinedStr_many (joinParts_cons (Calls.Constant_str ⟨small_line (by omega), ?_⟩))
  refine joinParts_cons (FormattedValue_plain (thn (he pins _ σ H _ (I.tok _) h) fun u s1 ⟨v, H1, I1, r, i, ev, hd, q⟩ => ?_))
  subst ev
  obtain ⟨tk, rfl⟩ := r
  have hz2 := fs_len hz hd
  refine formatField_int_small hd ⟨small_line (by omega), ?_⟩
  have hz3 : (Str.empty ++ a ++ Str.ofString (toString i) ++ b).length ≤ 4000 := by
    rw [strLen_append]
    omega
  exact joinParts_cons (Calls.Constant_str ⟨small_line (by omega), joinParts_nil ⟨.str _, H1, I1.tok _, ⟨_, rfl⟩, q _⟩ (small_line (by omega))⟩)
end
/-- THE RULE for a def that may raise -/
theorem Fun.ok1 {P : Program} {w : World} {K : PySem.W.Frag} {mg : Str → Option Value} {base : Heap} {x qual : Str} {st : Stmt} {f : Addr} {fd : FuncData} {N ps : List Str} {k : Nat} {sp : Sp} (F : Fun K x qual st f fd) (S : FnScope N ps (defScope st)) (len : ∀ vs H Q E, sp vs H Q E → vs.length = ps.length)
    (hbody : ∀ (cdv : Value) (A : Around) (outer : List Env) (s : Shared) (H : Hp) (vs : List V) (Q : VK) (E : XK), Room k (A.deeper (envOfC qual (defScope st) s.heap.objs.size f cdv)) → sp vs H Q E →
      ∃ t, PSs (cxOf (CX1 P w) P w K mg base N qual (defScope st) f cdv A outer s H E) (defBody st) t ∧ t { nx := fun _ H' => Q .non H', rt := Q } (start N vs) H) : FnOk P w K mg base (CX1 P w) (k + 1) f fd ps sp := by
  obtain ⟨oc, od, kV, doc, pm, an, cdv, ct, osl, rfl, lk, hcd⟩ := F.ex
  exact fn_of lk hcd S len fun A outer s H vs Q E hr hsp => hbody cdv A outer s H vs Q E hr hsp
end L2

namespace L2
open PySem PySem.Spec PyProof.Rows
/-- a caught exception: its class -/
noncomputable def excO (ea C : Addr) : HO := .ext fun h => ∃ o vs, h.get? ea = some o ∧ o.cls = .ref C ∧ o.data = .fields vs
/-- within an except suite -/
noncomputable abbrev Cx.within (X : Cx) (ea : Addr) : Cx := { X with A := X.A.mark (some (.ref ea)), calm := false, xe := fun _ _ => False }
section
variable {X : Cx} {pins : List (Addr × Obj)} {σ : St} {H : Hp} {s : Shared} {ea : Addr}
theorem Inv.inS (I : Inv X pins σ H s) (ea : Addr) : Inv (X.within ea) pins σ H s :=
  ⟨⟨I.ok.mod, I.ok.kind, I.ok.glob, I.ok.blt, I.ok.above, I.ok.inj, I.ok.has, I.ok.cab, (fun z => by cases z), I.ok.frames, I.ok.stk, I.ok.exf, I.ok.bs, I.ok.bsz, I.ok.noex, I.ok.exfs, I.ok.funs, I.ok.frf⟩, I.os, I.bare, I.base, I.loc, I.cell, I.free, I.freeC, I.pin, I.hok, I.len⟩
theorem Inv.outS (hd : X.calm = true → X.A.handled = none) (I : Inv (X.within ea) pins σ H s) : Inv X pins σ H s :=
  ⟨⟨I.ok.mod, I.ok.kind, I.ok.glob, I.ok.blt, I.ok.above, I.ok.inj, I.ok.has, I.ok.cab, hd, I.ok.frames, I.ok.stk, I.ok.exf, I.ok.bs, I.ok.bsz, I.ok.noex, I.ok.exfs, I.ok.funs, I.ok.frf⟩, I.os, I.bare, I.base, I.loc, I.cell, I.free, I.freeC, I.pin, I.hok, I.len⟩
/-- the name behind «as» goes -/
theorem Inv.goes {M : Model} {A : Around} {E : Value → Shared → Prop} {l : Nat} {n : Str} {pos : Pos} {Q : Unit → Shared → Prop} (I : Inv X pins σ H s) (hN : X.N.Nodup) (hi : X.N[l]? = some n) (hk : X.env.kindOf n = some .local)
    (h : ∀ s', Inv X pins (σ.set l none) H s' → Q () s') : wpAny M A (do bindName X.env n .none; unbindBehindTheSuite X.env n pos) Q E s := by
  obtain ⟨m, hn, hl⟩ := id I.loc
  have hcls : (X.env.scope.kind == .class || (X.env.scope.kind == .module && X.env.locals != X.env.globals)) = false := by rw [I.ok.kind]; rfl
  obtain ⟨oL, _, _, hoL, _⟩ := id hn
  refine wpAny_nameGoes_keeps hk hn hcls fun h' v hn' hs => h _ ?_
  have ne0 : ∀ b o, X.s₀.heap.get? b = some o → b ≠ X.env.locals := fun b o e => Nat.ne_of_lt (Nat.lt_of_lt_of_le (Heap.lt_size e) I.ok.above)
  have same : ∀ b o, b ≠ X.env.locals → s.heap.get? b = some o → h'.get? b = some o := fun b o ne e => (hs.2 b ne).trans e
  refine ⟨I.ok, I.os, I.bare, ⟨fun b o e n' hb hx => same b o (ne0 b o e) (I.base.keep b o e n' hb hx), fun b o e n' hb hx => ?_, I.base.free, fun b o e hx => ?_, I.base.tups, I.base.frzs, I.base.tbls⟩, ⟨_, hn', fun j y v' e1 e2 e3 => ?_⟩, fun y c e => ?_, I.free, I.freeC, fun p hp => ?_, fun b ob e => ?_, by simpa using I.len⟩
  · obtain ⟨sl, e1⟩ := I.base.slot b o e n' hb hx
    exact ⟨sl, same b _ (ne0 b o e) e1⟩
  · obtain ⟨o', e1⟩ := I.base.there b o e hx
    exact ⟨o', same b o' (ne0 b o e) e1⟩
  · have hj : j ≠ l := fun z => by
      subst z
      rw [List.getElem?_set] at e2
      simp at e2
    rw [List.getElem?_set_ne (Ne.symm hj)] at e2
    obtain ⟨u', r', q⟩ := hl j y v' e1 e2 e3
    refine ⟨u', r', ?_⟩
    rcases q with ⟨k, e⟩ | ⟨k, c, e, z⟩
    · refine .inl ⟨k, ?_⟩
      have : y ≠ n := fun e => hj (nodup_ix hN e1 (e ▸ hi))
      simp [this, e]
    · exact .inr ⟨k, c, e, z.sameBut hs (I.cne y c e)⟩
  · obtain ⟨w', z⟩ := I.cell y c e
    exact ⟨w', z.sameBut hs (I.cne y c e)⟩
  · obtain ⟨e, n', ne, nf, d⟩ := I.pin p hp
    exact ⟨same _ _ ne e, n', ne, nf, d⟩
  · refine (I.hok b ob e).stay (fun c w' hc q => same c w' ?_ q) (fun _ q => q) fun _ _ q => q
    rintro rfl
    rcases hc with rfl | hc
    · rw [I.free] at e; cases e
    · rw [I.free] at hc; cases hc
/-- where an exception has landed -/
theorem Fly.landed {H' : Hp} {s' : Shared} {C : Addr} {B h2 : Heap} (I : Inv X pins σ H s) (F : Fly X.prog X.w X.stack H H' s s' ea C B) {a0 : Value} (f : Heap.FlyingW B X.stack ea (.ref C) a0 h2) (k2 : s'.heap.UpToSlots h2) :
    Inv X pins σ (upd H' ea (excO ea C)) { s' with heap := h2 } := by
  have u := F.over I f.1 k2
  have hn := F.fresh
  obtain ⟨oe, vs, hoe, hoc, hod, _⟩ := f.first
  have nfr : ea ∉ frs X.stack := fun hm => by
    obtain ⟨_, o, ho, hd⟩ := f.2.2.1.mem hm
    rw [hoe] at ho
    cases ho
    exact hd vs hod
  have nes : ∀ b o, s.heap.get? b = some o → H b = none → b ≠ ea := fun b o e n z => by
    subst z
    have := F.inB b o e n nfr
    rw [f.2.1] at this
    cases this
  refine I.call' (ch := []) (s' := { s' with heap := h2 }) F.os ⟨u.keep, u.slot, fun b o e n hx => ?_, u.there, fun b xs e => ?_, fun b o xs e => ?_, fun b ps e => ?_⟩ (fun b ob e => ?_) F.bare fun b hb => absurd hb (by simp)
  · rw [upd_ne (nes b o e n)]
    exact u.free b o e n hx
  · have := u.tups b xs e
    rw [upd_ne (ne_of_none this hn)]
    exact this
  · have := u.frzs b o xs e
    rw [upd_ne (ne_of_none this hn)]
    exact this
  · obtain ⟨more, h3⟩ := u.tbls b ps e
    exact ⟨more, by rw [upd_ne (ne_of_none h3 hn)]; exact h3⟩
  · by_cases z : b = ea
    · subst z
      rw [upd_same] at e
      cases e
      exact ⟨⟨oe, vs, hoe, hoc, hod⟩, ⟨oe, hoe⟩, fun h1 h2' ⟨o, vs', h3, h4, h5⟩ k => ⟨o, vs', k o h3, h4, h5⟩⟩
    · rw [upd_ne z] at e
      exact ((F.hok.kept f.1) b ob e).stay (fun _ _ _ q => q) (fun c q => by rw [upd_ne (ne_of_none q hn)]; exact q) fun c xs q => by rw [upd_ne (ne_of_none q hn)]; exact q
end
/-- the body of a try -/
noncomputable def PTry (X : Cx) (st : List Stmt) (t : (St → Hp → Prop) → (St → XK) → St → Hp → Prop) : Prop :=
  ∀ (pins : List (Addr × Obj)) (s : Shared) (σ : St) (H : Hp) (N : St → Hp → Prop) (E : St → XK), Inv X pins σ H s → t N E σ H →
    wpAny (model X.prog X.w) X.A (execs st X.env) (fun f s1 => f = .next ∧ ∃ σ' H', Inv X pins σ' H' s1 ∧ N σ' H') (fun e s' => ∃ σ' H1 s1, Inv X pins σ' H1 s1 ∧ CX1 X.prog X.w X.stack H1 s1 (E σ') e s') s
section
variable {X : Cx} {k : Nat} {f : Addr} {fd : FuncData} {ps : List Str} {sp : Sp} {x y : Str} {p yp ap pos : Pos} {e : Expr} {es : List Expr} {t : TA} {i : Nat}
end
section
variable {X : Cx} {body : List Stmt} {tb : (St → Hp → Prop) → (St → XK) → St → Hp → Prop} {cx n z : Str} {c : Value} {cp np zp zp2 hp pos : Pos} {j l : Nat}
noncomputable def tTryAs (K : PySem.W.Frag) (c : Value) (j l : Nat) (tb : (St → Hp → Prop) → (St → XK) → St → Hp → Prop) : TS := fun D σ H =>
  tb D.nx (fun σ' cls _ H2 => ∃ C, cls = .ref C ∧ PySem.W.exmOne K (.ref C) c = some true ∧ ∀ ea, H2 ea = none → D.nx (((σ'.set l (some (.ref ea))).set j (some (.ref ea))).set l none) (upd H2 ea (excO ea C))) σ H
theorem ps_tryAs (hb : PTry X body tb) (hg : Gl X cx) (hm : X.mg cx = some c) (hc : X.calm = true) (hst : X.stack = X.env :: X.outer) (hfr : X.env.frame = some X.env.locals) (hN : X.N.Nodup)
    (hl : X.N[l]? = some n) (hnl : X.env.scope.names.lookup n = some .local) (hj : X.N[j]? = some z) (hz : Loc X.env.scope z) (hdb : (cx == ("__debug__" : Str)) = false := by decide)
    (hdn : (n == ("__debug__" : Str)) = false := by decide) (hcn : (n == ("__classdict__" : Str)) = false := by decide)
    (hs : swapsWith (.Name n np) (some (.Name z zp)) zp2.line X.env = pure false := by rfl) (hf : X.fn z = true ∨ X.env.scope.names.lookup z = some .local := by first | exact .inl rfl | exact .inr rfl | assumption) :
    PS X (.Try body [.ExceptHandler (some (.Name cx cp)) (some n) [.Assign [.Name z zp] (.Name n np) zp2] hp] [] [] pos) (tTryAs X.K c j l tb) := by
  intro pins s σ H D I h
  refine wpAny_Try_except (wpAny_mono (hb pins s σ H _ _ I h) (fun f s1 q => ?_) fun e s1 q => ?_)
  · obtain ⟨rfl, σ', H', I', q⟩ := q
    exact wpAny_execs_nil ⟨σ', H', I', q⟩
  · obtain ⟨σ', H1, s2, I1, ea, C, B, H', rfl, F, C', ec, hex, q⟩ := q
    obtain rfl : C = C' := by injection ec
    obtain ⟨a0, fl⟩ := F.fly
    have hframes : X.A.frames = some (X.env :: X.outer) := by rw [← hst]; exact I1.ok.frames
    have fl' := fl
    rw [hst] at fl'
    refine wpAny_looks_onW hframes hfr fl' fun h4 held sm4 => ?_
    refine wpAny_landsW held fun h5 fl5 sm5 => ?_
    rw [← hst] at fl5
    have J5 := F.landed I1 fl5 (sm4.trans sm5)
    refine wpAny_handleBy_cons (codeAny_handlers_test ?_) (by intro q; cases q)
    refine Calls.Name_function_global J5.ok.kind hg (Calls.loadGlobal_global (by rw [J5.ok.glob]; exact J5.mod.glob.keeps J5.bk) hm ?_) hdb
    obtain ⟨ob, hob, hobc⟩ := fl5.there
    have LT : PySem.W.Looks (model X.prog X.w) h5 (typeOf (.ref ea)) (.ref C) := hobc ▸ (PySem.W.Looks.ld hob).andThen .now
    refine (PySem.W.exm_one J5.kIn LT hex).here ?_
    refine codeAny_handlers_suite_as ?_
    refine lands_againW fl5 fun h6 fl6 sm6 => ?_
    have J6 := F.landed I1 fl6 ((sm4.trans sm5).trans sm6)
    refine store_ok (v := .ref ea) J6 hN hl (.inl hnl) rfl (fun s7 J7 => ?_) (.inr hnl)
    have S := pss_one (ps_set (X := X.within ea) (i := j) (pos := zp2) (pos' := zp) hN hj hz (pe_var (X := X.within ea) (i := l) (pos := np) hl (.inl hnl) hdn hcn) hs hf)
    have hlen : l < σ'.length := by rw [J6.len]; exact (List.getElem?_eq_some_iff.mp hl).1
    refine wpAny_mono (S pins s7 _ _ { nx := fun σ2 H2 => σ2 = (σ'.set l (some (.ref ea))).set j (some (.ref ea)) ∧ H2 = upd H' ea (excO ea C), rt := fun _ _ => False } (J7.inS ea) ⟨.ref ea, List.getElem?_set_self hlen, rfl, rfl⟩) (fun f s8 q8 => ?_) fun _ _ z => z.elim
    cases f with
    | next =>
      obtain ⟨σ2, H2, J8, rfl, rfl⟩ := q8
      have J8 := J8.outS I.ok.hd
      refine J8.goes hN hl hnl fun s9 J9 => ⟨_, _, J9, q ea F.fresh⟩
    | ret v => obtain ⟨_, _, _, _, _, z⟩ := q8; exact z.elim
    | brk => obtain ⟨_, _, _, z⟩ := q8; exact z.elim
    | cont => obtain ⟨_, _, _, z⟩ := q8; exact z.elim
end
end L2

namespace L2
open PySem PySem.Spec PyProof.Rows
/-! ### isinstance of a caught exception -/
/-- what the part that is written tells of such a class -/
structure ExcI (K : PySem.W.Frag) (C : Addr) : Prop where
  ga : PySem.W.findIn K (.ref C) "__getattribute__" = some (some (.builtin "BaseException.__getattribute__"))
  gh : PySem.W.findIn K (.ref C) "__getattr__" = some none
  sb : PySem.W.subIn K (.ref C) (.type "BaseException") = some true
  hd : PySem.W.hasDictIn K C = true
  at_ : PySem.W.findIn K (.ref C) "__class__" = some (some (.builtin "object.__class__"))
  gt : PySem.W.specialIn K (.builtin "object.__class__") "__get__" = some (some (.builtin "getset_descriptor.__get__"))
  tk : PySem.W.takesIn K (.builtin "object.__class__") = some true
  mr : PySem.W.mroIn K C (.type "object") = some true
theorem ExcI.cls {K : PySem.W.Frag} {C : Addr} (e : ExcI K C) : ∃ oc od cd sl, K.lookup C = some ⟨oc, od, .cls cd, sl⟩ := by
  obtain ⟨cd, h, _⟩ := PySem.W.any_some e.hd
  revert h
  unfold PySem.W.clsIn
  cases q : K.lookup C with
  | none => intro h; cases h
  | some o =>
    obtain ⟨oc, od, dt, sl⟩ := o
    cases dt with
    | cls c => exact fun _ => ⟨_, _, _, _, rfl⟩
    | _ => intro h; cases h
section
open PySem.W PySem.Calls PySem.Builtin PySem.Builtin.ObjectAttr PySem.Builtin.Getset_descriptor
variable {K : PySem.W.Frag} {prog : Program} {w : World} {A : Around} {E : Value → Shared → Prop} {s : Shared} {ea C : Addr}
/-- its class is found on the class alone: the exception's own dict is never read. (The library tells this of instances whose dict is known; the classes' facts it tells by name are used here.) -/
theorem exc_find {M : Model} {h : Heap} (e : ExcI K C) (X : K.In h) : Looks M h (find (.ref ea) (.ref C) "__class__") (.bind (.builtin "getset_descriptor.__get__") (.builtin "object.__class__")) := by
  unfold find
  exact (looks_findIn X e.at_).andThen (Looks.andThen (looks_specialIn X e.gt) (Looks.andThen ((looks_takesIn X e.tk).andThen .now) (Looks.tag .now)))
/-- an exception's own way to its names passes its test -/
theorem exc_check {nameV : Value} {Q : Unit → Shared → Prop} (e : ExcI K C) (X : K.In s.heap) (known : Looks (model prog w) s.heap (typeOf (.ref ea)) (.ref C)) (h : Q () s) :
    wpAny (model prog w) A (checkBuiltinCall "BaseException.__getattribute__" ⟨[.ref ea, nameV], []⟩) Q E s := by
  obtain ⟨H0, g0, d0, t0, o0⟩ := s
  have kind : builtinKind "BaseException.__getattribute__" = some .slot := by decide +kernel
  have cut : splitId "BaseException.__getattribute__" = some ("BaseException", "__getattribute__") := by decide +kernel
  have fit := F.args_bexc_ga (.ref ea) nameV
  simp only [checkBuiltinCall, kind, cut]
  apply wpAny_bind
  apply wpAny_bind
  refine known.at ((looks_subIn X e.sb).at ?_)
  simp only [Bool.not_true, Bool.false_eq_true, if_false]
  repeat (any_goals (first | assumption | wp_step))
theorem exc_class {Q : Option Value → Shared → Prop} (e : ExcI K C) (X : K.In s.heap) (hT : ∃ o, s.heap.get? ea = some o ∧ o.cls = .ref C) (h : Q (some (.ref C)) { s with toks := s.toks + 1 }) :
    wpAny (model prog w) A (getAttr? (.ref ea) "__class__") Q E s := by
  obtain ⟨H0, g0, d0, t0, o0⟩ := s
  obtain ⟨ob, hob, hcl⟩ := hT
  have known : Looks (model prog w) H0 (typeOf (.ref ea)) (.ref C) := hcl ▸ (Looks.ld hob).andThen .now
  have self := looks_mroIn (M := model prog w) X e.mr
  have told : ∀ {A' : Around} {R : Result → Shared → Prop}, R (.ok (.ret (.ref C))) ⟨H0, g0, d0, t0 + 1, o0⟩ → codeAny (model prog w) A' (.call (.builtin "getset_descriptor.__get__") ⟨[.builtin "object.__class__", .ref ea, .ref C], []⟩) R ⟨H0, g0, d0, t0 + 1, o0⟩ := fun {A' R} hR =>
    codeAny_call_builtin KF.slot_gs.plain KF.entry_gs <| KF.slot_gs.check _ _ _ _ _ _ _ _ KF.type_class (KF.args_gs _ _ _) <| by
      unfold Builtin.«getset_descriptor.__get__» descrGet descrGetter descrCheckInstance descrNameAndClass isInstance
      rw [dga_obj]
      apply wpAny_bind
      apply wpAny_pure
      simp only [KF.owner_class]
      repeat lk
      constructor
      · exact Code.quiet_builtin _ (by decide +kernel)
      · apply codeAny_builtin KF.entry_class
        unfold Builtin.«object.__class__» shownTypeOf
        repeat lk
        assumption
  have other : (onTheHeap (Value.ref C) && Value.builtin "BaseException.__getattribute__" == Value.builtin "object.__getattribute__") = false := by
    rw [show (Value.builtin "BaseException.__getattribute__" == Value.builtin "object.__getattribute__") = false from by decide +kernel, Bool.and_false]
  unfold getAttr? getAttrBy? getAttrBy
  apply wpAny_bind
  apply wpAny_mkText
  apply wpAny_bind
  apply wpAny_attempt
  apply wpAny_holding
  apply wpAny_bind
  refine known.at (wpAny_bind ((looks_findIn X e.ga).at ?_))
  simp only [other, Bool.false_eq_true, if_false]
  unfold getAttrByItsOwn hookBefore
  rw [if_pos (show onTheHeap (Value.ref C) = true from rfl)]
  apply wpAny_bind
  refine (looks_findIn X e.gh).at ?_
  apply wpAny_bind
  apply wpAny_attempt
  apply wpAny_holding
  unfold callGetattribute boundAndCalled
  simp only [Bool.false_and, Bool.false_eq_true, if_false]
  rw [F.excAttr_ValueError.ga.bind (.ref ea)]
  apply wpAny_bind
  apply wpAny_pure
  refine wpAny_call (codeAny_call_builtin F.excAttr_ValueError.ga.plain F.entry_bexc_ga (exc_check (s := ⟨H0, g0, d0, t0 + 1, o0⟩) e X known ?_))
  have found := exc_find (M := model prog w) (ea := ea) e X
  unfold Builtin.«object.__getattribute__»
  repeat (first | (with_reducible refine wpAny_call (told ?_)) | assumption | lk | wp_step)
noncomputable def ExcT (ea C : Addr) (h : Heap) : Prop := ∃ o, h.get? ea = some o ∧ o.cls = .ref C
theorem kitx_exc (e : ExcI K C) : PySem.W.KitX K (.ref ea) (.ref C) (ExcT ea C) where
  ty := fun _ _ _ ⟨_, h1, h2⟩ => h2 ▸ (Looks.ld h1).andThen .now
  it := fun _ _ X _ => by
    obtain ⟨oc, od, cd, sl, hl⟩ := e.cls
    intro _ _ _ _ k q
    unfold isType loadHead
    apply wpAny_bind
    exact wpAny_loadPart (k _ _ (X _ _ hl)) (wpAny_pure q)
  ne := fun h tp dd its n sl X htp => by
    obtain ⟨oc, od, cd, sl', hl⟩ := e.cls
    cases z : (Value.ref C == Value.ref tp) with
    | false => rfl
    | true =>
      cases Value.ref.inj (beq_iff_eq.mp z)
      have := X _ _ hl
      rw [htp] at this
      cases this
  ca := fun X p k => exc_class e X p k
end
/-- isinstance(e, T), e a caught exception -/
theorem call_isE {X : Cx} {K : PySem.W.Frag} (hK : X.K = K) : CallR X (.builtin "isinstance") (fun vs H Q => ∃ ea C c b, vs = [.ref ea, c] ∧ H ea = some (excO ea C) ∧ ExcI K C ∧ (∀ u, RelV c u → PySem.W.kitOne K (.ref C) u = some b) ∧ Q (.bl b) H) := by
  subst hK
  intro pins s σ H xs us Q I r h
  obtain ⟨ea, C, c, b, rfl, he, i, hk, q⟩ := h
  obtain ⟨u, v, rfl, rx, ry⟩ := vals2 r
  cases rx
  obtain ⟨⟨o, vs, h1, h2, _⟩, _⟩ := I.hok ea _ he
  exact PySem.W.kia_one (kitx_exc i) I.kIn ⟨o, h1, h2⟩ (hk v ry) (by intro z; cases z) fun tk => ⟨.bl b, H, I.tok tk, rfl, q⟩
end L2

namespace L2
open PySem PySem.Spec PyProof.Rows
/-! ### a lambda without own names, handed on and called elsewhere; it may raise -/
noncomputable def cxM (CX : CXT) (P : Program) (w : World) (K : PySem.W.Frag) (mg : Str → Option Value) (base : Heap) (N : List Str) (qual : Str) (sc : Scope) (f : Addr) (cd : Value) (cl : List (Str × Addr)) (A : Around) (outer : List Env) (s : Shared) (H : Hp) (E : XK) : Cx where
  prog := P
  w := w
  K := K
  mg := mg
  base := base
  A := A.deeper (lamEnv qual sc cl s.heap.objs.size f cd)
  N := N
  s₀ := s
  H₀ := H
  env := lamEnv qual sc cl s.heap.objs.size f cd
  outer := outer
  stack := lamEnv qual sc cl s.heap.objs.size f cd :: outer
  ex := []
  calm := true
  fn := fun _ => false
  pn := []
  xe := fun e s' => wpAny (model P w) (A.deeper (lamEnv qual sc cl s.heap.objs.size f cd)) (leaving (lamEnv qual sc cl s.heap.objs.size f cd) e) (fun _ s'' => CX outer H s E e s'') (fun e' s'' => CX outer H s E e' s'') s'
/-- what the cells of a block hold, in a later state -/
structure ClAt (X : Cx) (σ : St) (H : Hp) (s : Shared) : Prop where
  inj : ∀ x y c, X.env.cells.lookup x = some c → X.env.cells.lookup y = some c → x = y
  has : ∀ x, (X.env.kindOf x = some .cell ∨ X.env.kindOf x = some .free) → ∃ c, X.env.cells.lookup x = some c
  len : σ.length = X.N.length
  free : ∀ x c, X.env.cells.lookup x = some c → H c = none
  cell : ∀ x c, X.env.cells.lookup x = some c → ∃ v, s.heap.IsCell c v
  val : ∀ (i : Nat) (x : Str) (v : V), X.N[i]? = some x → σ[i]? = some (some v) → (X.env.kindOf x = some .cell ∨ X.env.kindOf x = some .free) → ∃ u c, RelV v u ∧ X.env.cells.lookup x = some c ∧ s.heap.IsCell c (some u)
section
variable {X : Cx} {pins : List (Addr × Obj)} {σ : St} {H : Hp} {s s' : Shared}
theorem ClAt.of (I : Inv X pins σ H s) (hst : X.stack = X.env :: X.outer) (hfr : X.env.frame = some X.env.locals) (hfn : ∀ x, X.fn x = true) (k : ∀ b o, s.heap.get? b = some o → H b = none → b ∉ frs X.stack → s'.heap.get? b = some o) : ClAt X σ H s' := by
  have nin : ∀ x c, X.env.cells.lookup x = some c → c ∉ frs X.stack := fun x c e hm => by
    rw [hst, frs_cons hfr] at hm
    rcases List.mem_cons.mp hm with z | z
    · exact I.cne x c e z
    · obtain ⟨_, o, ho, _⟩ := I.ok.funs.mem z
      exact absurd (Nat.lt_of_lt_of_le (Heap.lt_size ho) (I.ok.cab x c (hfn x) e)) (Nat.lt_irrefl _)
  have mv : ∀ x c v, X.env.cells.lookup x = some c → s.heap.IsCell c v → s'.heap.IsCell c v := fun x c v e ⟨o, ho, hd⟩ => ⟨o, k c o ho (I.freeC x c e) (nin x c e), hd⟩
  refine ⟨I.ok.inj, I.ok.has, I.len, I.freeC, fun x c e => ?_, fun i x v h1 h2 h3 => ?_⟩
  · obtain ⟨v, z⟩ := I.cell x c e
    exact ⟨v, mv x c v e z⟩
  · obtain ⟨m, _, hl⟩ := I.loc
    obtain ⟨u, r, l⟩ := hl i x v h1 h2 (h3.elim (fun z => .inr (.inl z)) fun z => .inr (.inr z))
    rcases l with ⟨z, _⟩ | ⟨_, c, ec, hc⟩
    · rcases h3 with q | q <;> (rw [q] at z; cases z)
    · exact ⟨u, c, r, ec, mv x c _ ec hc⟩
variable {P : Program} {w : World} {K : PySem.W.Frag} {mg : Str → Option Value} {base : Heap} {x0 qual : Str} {sc : Scope} {f c : Addr} {cd : Value} {A : Around} {outer : List Env} {E E' : XK} {CX : CXT}
theorem inv_lamM {h₁ : Heap} (S : LScope X false x0 sc) (C : ClAt X σ H s) (e0 : Env0 P w K mg base A outer s H) (hd : A.handled = none) (hn : h₁.Ns s.heap.objs.size (fun _ => none)) (hk : ∀ b o, s.heap.get? b = some o → h₁.get? b = some o) :
    Inv (cxM CX P w K mg base X.N qual sc f cd (clF X.env.cells sc.names []) A outer s H E) [] σ H { s with heap := h₁ } := by
  have noA : ∀ b : Addr, b ∉ (cxM CX P w K mg base X.N qual sc f cd (clF X.env.cells sc.names []) A outer s H E).ex := fun b z => absurd (show b ∈ ([] : List Addr) from z) (by simp)
  have cellK : ∀ {c v}, s.heap.IsCell c v → h₁.IsCell c v := fun ⟨o, ho, hd⟩ => ⟨o, hk _ _ ho, hd⟩
  refine ⟨⟨e0.mod, S.kind, rfl, rfl, Nat.le_refl _, fun x y c h1 h2 => C.inj x y c (clF_lookup h1).1 (clF_lookup h2).1, fun x hx => ?_, (fun _ _ h => by cases h), fun _ => hd, Around.frames_deeper e0.frames, .inr ⟨rfl, rfl⟩, fun b z => absurd z (noA b), e0.bs, e0.bsz, fun b _ _ => noA b, fun b z => absurd z (noA b), e0.funs, e0.frf⟩,
    rfl, e0.bare, Un.kept hk, ⟨_, hn, fun i x v h1 h2 h3 => ?_⟩, fun x c h => ?_, e0.hok.fresh (Nat.le_refl _), fun x c h => C.free x c (clF_lookup h).1, fun p hp => absurd (show p ∈ ([] : List (Addr × Obj)) from hp) (by simp), e0.hok.kept hk, C.len⟩
  · have hv : sc.names.lookup x = some .cell ∨ sc.names.lookup x = some .free := hx
    obtain ⟨q, _⟩ := S.free_of (x := x) (hv.elim (fun z => .inr (.inl z)) fun z => .inr (.inr z)) (fun z => nomatch z)
    obtain ⟨c, e⟩ := C.has x (S.frees _ q rfl)
    exact lookup_isSome_of_mem (clF_has sc.names [] x c q e)
  · obtain ⟨hf, hkd⟩ := S.free_of h3 (fun z => nomatch z)
    obtain ⟨u, c, r, ec, hc⟩ := C.val i x v h1 h2 (S.frees _ hf rfl)
    obtain ⟨d, ed⟩ := lookup_isSome_of_mem (clF_has sc.names [] x c hf ec)
    have : c = d := by
      have := (clF_lookup ed).1
      rw [ec] at this
      exact Option.some.inj this
    subst this
    exact ⟨u, r, .inr ⟨.inr hkd, c, ed, cellK hc⟩⟩
  · obtain ⟨v, z⟩ := C.cell x c (clF_lookup h).1
    exact ⟨v, cellK z⟩
/-- the lambda is called, in whatever state in which its cells are known -/
theorem lamM_code {params : Arguments} {body : Expr} {te : TE} {Q : VK} {k : Nat} (S : LScope X false x0 sc) (C : ClAt X σ H s) (e0 : Env0 P w K mg base A outer s H) (hr : Room k A) (hf : H f = some (lamO f qual params body sc (clF X.env.cells sc.names []) c)) (hc : H c = some (codeO c qual))
    (hbind : ∀ pm ctv, bindArgs (PySem.W.kla_fn "<lambda>" qual params body sc (clF X.env.cells sc.names []) pm (.ref c) ctv) ⟨[], []⟩ = pure [])
    (hb : PE (cxM (CX1 P w) P w K mg base X.N qual sc f (.ref c) (clF X.env.cells sc.names []) A outer s H E) body te) (h : te σ H Q) : codeAny (model P w) A (.call (.ref f) ⟨[], []⟩) (CR (CX1 P w) outer P w H s Q E) s := by
  obtain ⟨⟨pm, ctv, ho⟩, _⟩ := e0.hok f _ hf
  have hrec := codeO_rec (e0.hok c _ hc)
  refine PySem.W.kla_callFunE hr.depth ho rfl S.co S.gen rfl hrec ?_
  rw [hbind]
  refine wpAny_pure (newEnvL (o := false) (x0 := x0) S.laid S.push ?_)
  have I2 : Inv (cxM (CX1 P w) P w K mg base X.N qual sc f (.ref c) (clF X.env.cells sc.names []) A outer s H E) [] σ H { s with heap := s.heap.push { cls := .type "frame", data := .dict #[] } } :=
    inv_lamM S C e0 hr.hd (Heap.Ns.new s.heap (.type "frame")) fun b o e => Heap.get?_push_of_some _ e
  rw [List.forIn_nil]
  refine wpAny_pure ⟨I2.nolimit, PySem.W.kla_codeExpr ?_⟩
  refine wpAny_mono (hb [] _ σ H Q I2 h) (fun u' s'' ⟨y, H', J, ry, qy⟩ => ?_) fun e s'' z => z
  exact ⟨y, H', J.os, J.bare, J.base, J.hok, ry, qy⟩
/-- an exception is let through -/
theorem passM {N : List Str} {cl : List (Str × Addr)} {s₀ : Shared} {H₀ : Hp} (hEE : ∀ c H, E c none H → E' c none H) : Passes (CX1 P w) (cxM (CX1 P w) P w K mg base N qual sc f cd cl A outer s₀ H₀ E') E := by
  rintro pins σ H s e s' I ⟨ea, C, B, H', rfl, F, hE⟩
  have hf : (lamEnv qual sc cl s₀.heap.objs.size f cd).frame = some s₀.heap.objs.size := rfl
  have hfr : (A.deeper (lamEnv qual sc cl s₀.heap.objs.size f cd)).frames = some (lamEnv qual sc cl s₀.heap.objs.size f cd :: outer) := I.ok.frames
  obtain ⟨a0, fl⟩ := F.fly
  refine wpAny_leaves_onW hfr hf fl fun h2 x1 x4 => ?_
  have u := F.over (h2 := h2) I x1.1 x4
  have J : Inv (cxM (CX1 P w) P w K mg base N qual sc f cd cl A outer s₀ H₀ E') pins σ H' { s' with heap := h2 } := I.call' (ch := []) F.os u (F.hok.kept x1.1) F.bare fun b hb => absurd hb (by simp)
  have base0 : Un (frs outer) [] H₀ H s₀.heap s.heap := I.base
  have nin : ∀ b o, s₀.heap.get? b = some o → b ∉ frs outer → b ∉ frs (lamEnv qual sc cl s₀.heap.objs.size f cd :: outer) := fun b o q hb hm => by
    rw [frs_cons hf] at hm
    rcases List.mem_cons.mp hm with z | z
    · exact absurd (Heap.lt_size q) (by rw [z]; exact Nat.lt_irrefl _)
    · exact hb z
  refine ⟨ea, C, B, H', rfl, ⟨F.os.trans I.os, F.bare, J.base, F.hok, fun b o q n hb => ?_, fun b o q hb => ?_, ⟨a0, x1⟩⟩, hEE _ _ hE⟩
  · exact F.inB b o (base0.keep b o q n hb (by simp)) (base0.free b o q n (by simp)) (nin b o q hb)
  · obtain ⟨o', e1⟩ := base0.there b o q (by simp)
    exact F.ex b o' e1 (nin b o q hb)
end
/-! ### a def whose promise hangs on the state at its entry -/
noncomputable abbrev SpS := List Env → Shared → Sp
structure FnAt (P : Program) (w : World) (K : PySem.W.Frag) (mg : Str → Option Value) (base : Heap) (CX : CXT) (k : Nat) (f : Addr) (fd : FuncData) (ps : List Str) (sp : SpS) : Prop where
  len : ∀ outer s vs H Q E, sp outer s vs H Q E → vs.length = ps.length
  run : ∀ (A : Around) (outer : List Env) (s : Shared) (H : Hp) (args : Args) (us : List Value) (vs : List V) (Q : VK) (E : XK), Room k A → Env0 P w K mg base A outer s H → BindsTo s fd args (ps.zip us) → Vals vs us → sp outer s vs H Q E →
    codeAny (model P w) A (.call (.ref f) args) (CR CX outer P w H s Q E) s
section
variable {P : Program} {w : World} {K : PySem.W.Frag} {mg : Str → Option Value} {base : Heap}
theorem Fun.okS {x qual : Str} {st : Stmt} {f : Addr} {fd : FuncData} {N ps : List Str} {k : Nat} {sp : SpS} (F : Fun K x qual st f fd) (S : FnScope N ps (defScope st)) (len : ∀ outer s vs H Q E, sp outer s vs H Q E → vs.length = ps.length)
    (hbody : ∀ (cdv : Value) (A : Around) (outer : List Env) (s : Shared) (H : Hp) (vs : List V) (Q : VK) (E : XK), Room k (A.deeper (envOfC qual (defScope st) s.heap.objs.size f cdv)) → sp outer s vs H Q E →
      ∃ t, PSs (cxOf CX0 P w K mg base N qual (defScope st) f cdv A outer s H E).nox (defBody st) t ∧ t { nx := fun _ H' => Q .non H', rt := Q } (start N vs) H) : FnAt P w K mg base CX0 (k + 1) f fd ps sp := by
  refine ⟨len, fun A outer s H args us vs Q E hr e0 hb r hsp => ?_⟩
  obtain ⟨oc, od, kV, doc, pm, an, cdv, ct, osl, rfl, lk, hcd⟩ := F.ex
  have hl := len _ _ _ _ _ _ hsp
  have KX : K.In s.heap := e0.mod.kin.keeps fun b o e => (e0.bs b o e).1
  have lim : s.heap.NoLimit := e0.mod.nolimit.keeps fun b o e => (e0.bs b o e).1
  have hkind : ∀ y ∈ ps.zip us, (defScope st).names.lookup y.1 = some .local ∨ ((defScope st).names.lookup y.1 = some .cell ∧ ((cellsFrom (s.heap.objs.size + 1) (defScope st).names []).lookup y.1).isSome = true) := fun ⟨n, v⟩ hy => by
    rcases S.par n (List.of_mem_zip hy).1 with q | q
    · exact .inl q
    · exact .inr ⟨q, PySem.W.cellsFrom_some _ _ _ (.inl q)⟩
  refine codeAny_call_function hr.depth (KX _ _ lk) rfl S.co S.gen rfl (PySem.W.codeRec_of KX hcd) (hb _ _ _ _ ?_)
  refine wpAny_newFunctionEnv_cells S.kind hkind fun env he s1 x => ?_
  subst he
  refine ⟨lim.keeps x.toInCall.keep, codeAny_func ?_⟩
  obtain ⟨t, ht, hq⟩ := hbody cdv A outer s H vs Q E (hr.deeper _) hsp
  have I : Inv (cxOf CX0 P w K mg base N qual (defScope st) f cdv A outer s H E) [] (start N vs) H s1 := inv_start S hr.hd e0 hl r x
  refine wpAny_mono (ht.nox [] s1 (start N vs) H _ I hq) (fun fl s' hs => ?_) fun e s' hs => hs
  have fin : ∀ {σ' : St} {H' : Hp} {v : V} {u : Value}, Inv (cxOf CX0 P w K mg base N qual (defScope st) f cdv A outer s H E) [] σ' H' s' → RelV v u → Q v H' → CE outer P w H s Q u s' :=
    fun {σ' H' v u} J rv q => ⟨v, H', J.os, J.bare, J.base, J.hok, rv, q⟩
  cases fl with
  | ret u =>
    obtain ⟨v, σ', H', J, rv, q⟩ := hs
    exact fin J rv q
  | next =>
    obtain ⟨σ', H', J, q⟩ := hs
    exact fin (v := V.non) (u := Value.none) J rfl q
  | brk =>
    obtain ⟨_, _, _, q⟩ := hs
    exact False.elim q
  | cont =>
    obtain ⟨_, _, _, q⟩ := hs
    exact False.elim q
end
section
variable {X : Cx} {k : Nat} {f : Addr} {fd : FuncData} {ps : List Str} {sp : SpS} {x : Str} {p pos : Pos} {e : Expr} {es : List Expr} {t : TA}
noncomputable def tCallS (X : Cx) (sp : SpS) (t : TA) : TE := fun σ H Q => t σ H fun vs H1 => ∀ pins s1, Inv X pins σ H1 s1 → sp X.stack s1 vs H1 Q E0
theorem pe_callS (F : FnAt X.prog X.w X.K X.mg X.base CX0 k f fd ps sp) (hr : Room k X.A) (hg : Gl X x) (hm : X.mg x = some (.ref f)) (hk : PySem.W.keepIn X.K (.ref f) = true) (hb : Binds X.K fd ps [])
    (ha : PA X (e :: es) t) (hdb : (x == ("__debug__" : Str)) = false := by decide) (he : starEach (e :: es) X.env = (false, eval e X.env) :: starEach es X.env := by rfl) (hpl : (backTo pos (starEach es X.env)).any (·.1) = false := by rfl) :
    PE X (.Call (.Name x p) (e :: es) [] pos) (tCallS X sp t) := by
  intro pins s σ H Q I h
  refine wpAny_Call_Name_kw (ld_glob I hg hm ?_ hdb)
  refine PySem.W.callWith_K (h₀ := X.base) I.ok.mod.kin hk (thn (ha pos pins s σ H _ I h) fun us s1 ⟨vs, H1, I1, r, q⟩ => ⟨I1.kIn, ?_⟩) he hpl
  have q' := q pins s1 I1
  have hl : (us ++ []).length = ps.length := by rw [List.append_nil, ← r.length]; exact F.len _ _ _ _ _ _ q'
  have hb2 := hb s1 us I1.kIn hl
  rw [List.append_nil] at hb2
  refine wpAny_call (codeAny_mono (F.run X.A X.stack s1 H1 ⟨us, []⟩ us vs Q E0 hr I1.env0 hb2 r q') fun r s' hq => ?_)
  cases r with
  | error e => exact hq.elim
  | ok fl =>
    cases fl with
    | ret u => exact I1.after hq
    | next => exact False.elim hq
    | brk => exact False.elim hq
    | cont => exact False.elim hq
end
/-! ### what a lambda does when it is asked -/
noncomputable def AskOk (P : Program) (w : World) (K : PySem.W.Frag) (mg : Str → Option Value) (base : Heap) (k : Nat) (outer1 : List Env) (s1 : Shared) (f : Addr) (H : Hp) (Q : VK) (E : XK) : Prop :=
  (∃ qual params body sc cl c, H f = some (lamO f qual params body sc cl c)) ∧ ∀ (A : Around) (outer : List Env) (s : Shared), Room k A → Env0 P w K mg base A outer s H → (∀ b o, s1.heap.get? b = some o → H b = none → b ∉ frs outer1 → s.heap.get? b = some o) →
    codeAny (model P w) A (.call (.ref f) ⟨[], []⟩) (CR (CX1 P w) outer P w H s Q E) s
section
variable {X : Cx} {k i : Nat} {x : Str} {p ap pos : Pos}
theorem pt_ask (hr : Room k X.A) (hex : X.ex = []) (hi : X.N[i]? = some x) (hv : Vis X.env.scope x) (hdb : (x == ("__debug__" : Str)) = false := by decide) (hcd : (x == ("__classdict__" : Str)) = false := by decide)
    (hs : swapsWith (.Call (.Name x p) [] [] pos) none ap.line X.env = pure false := by rfl) :
    PTry X [.Expr (.Call (.Name x p) [] [] pos) ap] (fun N E σ H => ∃ f, σ[i]? = some (some (.ref f)) ∧ H = X.H₀ ∧ AskOk X.prog X.w X.K X.mg X.base k X.outer X.s₀ f H (fun _ H2 => N σ H2) (E σ)) := by
  rintro pins s σ H N E I ⟨f, hσ, rfl, ⟨q1, q2, q3, q4, q5, q6, hf⟩, ask⟩
  have core : wpAny (model X.prog X.w) X.A (eval (.Call (.Name x p) [] [] pos) X.env) (EP X pins σ fun _ H2 => N σ H2) (fun e s' => ∃ σ' H1 s1, σ' = σ ∧ Inv X pins σ' H1 s1 ∧ CX1 X.prog X.w X.stack H1 s1 (E σ) e s') s := by
    refine wpAny_Call_Name_kw (thn ((pe_var (X := X.wish fun e s' => ∃ σ' H1 s1, σ' = σ ∧ Inv X pins σ' H1 s1 ∧ CX1 X.prog X.w X.stack H1 s1 (E σ) e s') (pos := p) hi hv hdb hcd) pins s σ X.H₀ (fun v H1 => v = .ref f ∧ H1 = X.H₀) (I.wish _) ⟨_, hσ, rfl, rfl⟩) fun u s1 ⟨y, H1, I1, ry, ey, eh⟩ => ?_)
    subst ey
    subst eh
    have I1 := I1.unwish
    cases ry
    obtain ⟨⟨pm, ctv, ho⟩, _⟩ := I1.hok f _ hf
    refine PySem.W.callWith_of (P := fun h => ∃ o fd, h.get? f = some o ∧ o.data = .func fd) rfl (fun h ⟨o, fd, h1, h2⟩ => ⟨.frame, .inl rfl, (PySem.W.Looks.ld (part := none) h1).andThen ?_⟩) (PyProof.Rows.evalArgs_nil3 ⟨⟨_, _, ho, rfl⟩, ?_⟩)
    · rw [h2]; exact .now
    have un := I1.base
    rw [hex] at un
    refine wpAny_call (codeAny_mono (ask X.A X.stack s1 hr I1.env0 fun b o e n hb => un.keep b o e n hb (by simp)) fun r s' hq => ?_)
    cases r with
    | error e => exact ⟨σ, X.H₀, s1, rfl, I1, hq⟩
    | ok fl =>
      cases fl with
      | ret u => exact I1.after hq
      | next => exact False.elim hq
      | brk => exact False.elim hq
      | cont => exact False.elim hq
  refine wpAny_execs_cons (wpAny_Expr_any (wpAny_mono core (fun v s1 ⟨z, H1, I1, r1, q1⟩ => ?_) fun e s' ⟨σ', H1, s1, e1, I1, q1⟩ => ?_) I.quiet hs)
  · exact wpAny_execs_nil ⟨rfl, _, H1, I1, q1⟩
  · subst e1
    exact ⟨_, H1, s1, I1, q1⟩
end
end L2

namespace L2
open PySem PySem.Spec PyProof.Rows
/-! ### a dict whose keys are tuples of truths, made and asked -/
theorem slot_bh : Slot "bool" "__hash__" "int.__hash__" :=
  .of (owner := "int") (n := "__hash__") (by rw [typeLookup_type, builtinLookup_eq_fast]; kernel_rfl) (by decide +kernel) (by decide +kernel) (by decide +kernel) (.inl (by decide +kernel)) (by rw [isSubtype_type]; kernel_rfl)
theorem boolHash : typeLookup (.type "bool") "__hash__" = pure (some (.builtin "int.__hash__")) := by rw [typeLookup_type, builtinLookup_eq_fast]; kernel_rfl
section
variable {prog : Program} {w : World} {A : Around} {E : Value → Shared → Prop} {s : Shared} {b : Bool}
theorem ask_hash {fb : Sem Value} {R : Option Value → Shared → Prop} (h : R (some (.int (if b then 1 else 0) s.toks)) { s with toks := s.toks + 1 }) : wpAny (model prog w) A (callSpecialIfBoundUnlessNone? (.bool b) "__hash__" fb) R E s := by
  refine wpAny_callSpecialIfBoundUnlessNone?_slot (T := "bool") (by rfl) slot_bh (wpAny_call_entry slot_bh (by rfl) entry_int_hash ?_ (args_int_hash _))
  obtain ⟨hp, g, d, tk, os⟩ := s
  unfold Builtin.«int.__hash__»
  cases b <;> wp_walk
  · exact ⟨_, rfl, h⟩
  · exact ⟨_, rfl, h⟩
theorem hash_bool {Q : Int → Shared → Prop} (h : Q (if b then 1 else 0) { s with toks := s.toks + 1 }) : wpAny (model prog w) A (pyHash (.bool b)) Q E s := by
  show wpAny _ _ (pyHashByItsType (.bool b)) _ _ _
  unfold pyHashByItsType
  refine wpAny_bind ?_
  rw [cRoomFor, if_neg (by show ¬ false = true; decide)]
  refine wpAny_pure (wpAny_bind (wpAny_specialOf (T := "bool") (by rfl) boolHash ?_))
  try dsimp only
  rw [if_neg (by rw [show (some (Value.builtin "int.__hash__") == some Value.none) = false from rfl]; exact Bool.false_ne_true)]
  refine wpAny_bind (wpAny_specialOf (T := "bool") (by rfl) boolHash ?_)
  try dsimp only
  rw [if_neg (by show ¬ false = true; decide)]
  refine wpAny_bind (ask_hash ?_)
  try dsimp only
  cases b with
  | false => exact wpAny_pure h
  | true => exact wpAny_pure h
end
noncomputable def boolKind (prog : Program) (w : World) : PySem.KeyKind prog w Bool where
  is := fun k v => decide (v = Value.bool k)
  hash := fun k => if k then 1 else 0
  inj := fun v a b ha hb => by
    have h1 := of_decide_eq_true ha
    rw [of_decide_eq_true hb] at h1
    exact (Value.bool.inj h1).symm
  byValue := fun k v h => by rw [of_decide_eq_true h]; rfl
  pyHash := fun hv h => by rw [of_decide_eq_true hv]; exact hash_bool h
  eqBool := fun {A E s a b u v Q} hu hv h => by
    rw [of_decide_eq_true hu, of_decide_eq_true hv]
    refine SeqAt.EqAt.bool_bool a b _ _ _ _ ?_
    have e : (a == b) = decide (a = b) := by cases a <;> cases b <;> rfl
    rw [e]
    exact h
  «strs» := fun k x t v h => nomatch (of_decide_eq_true h)
noncomputable def bdO (P : Program) (w : World) (p : Addr) (ks : List (List Bool × Addr × Str)) : HO := .ext fun h => (p == sysModules) = false ∧ ∃ (xs : List (List Bool × Addr × Value)) (o : Obj) (es : Array DictEntry) (ep : Nat), Paired (fun (a : List Bool × Addr × Str) (b : List Bool × Addr × Value) => a.1 = b.1 ∧ a.2.1 = b.2.1 ∧ RelV (.str a.2.2) b.2.2) ks xs ∧ h.get? p = some o ∧ o.ExactDict ∧ o.data = .dict es ep ∧ es.toList = xs.map (entryOfKey (tupleKind (boolKind P w))) ∧ (xs.map (·.1)).Nodup
theorem bkey_of {P : Program} {w : World} {H : Hp} {h : Heap} {a : Addr} {ks : List Bool} (ok : HOk P w H h) (e : H a = some (.tup (ks.map V.bl))) : (tupleKind (boolKind P w)).is h ks a := by
  obtain ⟨_, its, r, o, h1, h2, n, h3⟩ := (show ObjOk P w H h a (.tup (ks.map V.bl)) from ok a _ e)
  refine ⟨o, its.toArray, n, h1, h2, h3, ?_⟩
  rw [List.toList_toArray]
  have all : ∀ {ks : List Bool} {its : List Value}, Vals (ks.map V.bl) its → ItemsAre (boolKind P w) ks its := by
    intro ks
    induction ks with
    | nil => intro its r; cases r; exact .nil
    | cons k ks ih =>
      intro its r
      rw [List.map_cons] at r
      cases r with
      | cons r1 r2 => exact .cons (decide_eq_true r1) (ih r2)
  exact all r
/-- two pairs -/
noncomputable def tDispB (P : Program) (w : World) (trs : List (TE × TE)) : TE := fun σ H Q => ∀ p, H p = none → tPairs trs σ (upd H p (.dT [])) fun ps H2 => H2 p = some (.dT []) ∧ ∃ (k1 k2 : List Bool) (a1 a2 : Addr) (x1 x2 : Str), ps = [(.ref a1, .str x1), (.ref a2, .str x2)] ∧ k1 ≠ k2 ∧ H2 a1 = some (.tup (k1.map V.bl)) ∧ H2 a2 = some (.tup (k2.map V.bl)) ∧
  Q (.ref p) (upd H2 p (bdO P w p [(k1, a1, x1), (k2, a2, x2)]))
section
variable {X : Cx} {pos : Pos}
theorem pe_dispB {P : Program} {w : World} {keys : List (Option Expr)} {values : List Expr} {trs : List (TE × TE)} (hP : X.prog = P) (hw : X.w = w) (hu : X.A.units < cLine) (h : PPs X pos keys values trs) (hall : keys.all (·.isSome) = true) (hl : keys.length = values.length) (h0 : keys ≠ [])
    (h15 : keys.length ≤ 15) : PE X (.Dict keys values pos) (tDispB P w trs) := by
  subst hP
  subst hw
  intro pins s σ H Q I q
  have hn := I.hok.fresh (Nat.le_refl s.heap.objs.size)
  have I1 := I.laid (a := s.heap.objs.size) (o := .dT []) (h' := s.heap.push { cls := .type "dict", data := .dict #[] }) (t' := s.toks) (fun _ _ q => Heap.get?_push_of_some _ q) (Nat.le_refl _) (dt_empty s.heap I.big)
  have hsm : (s.heap.objs.size == sysModules) = false := beq_eq_false_iff_ne.mpr (Ne.symm (Nat.ne_of_lt I.big))
  refine wpAny_Dict_any hall hl h0 h15 (thn (h pins _ σ _ _ I1 (q _ hn)) fun ws s2 ⟨ps, H2, I2, rel, e, k1, k2, a1, a2, x1, x2, ep, ne, e1, e2, q2⟩ => ?_)
  subst ep
  generalize s.heap.objs.size = p at e q2 hsm
  cases rel with
  | @cons _ b1 _ bs r1 r2 =>
    cases r2 with
    | @cons _ b2 _ _ r3 r4 =>
      cases r4
      obtain ⟨u1, v1⟩ := b1
      obtain ⟨u2, v2⟩ := b2
      obtain ⟨ru1, rv1⟩ := r1
      obtain ⟨ru2, rv2⟩ := r3
      cases ru1
      cases ru2
      obtain ⟨_, _, xs0, r0, o0, es0, ep0, d1, d2, d3, d4, d5⟩ := (show ObjOk X.prog X.w H2 s2.heap p (.dT []) from I2.hok p _ e)
      cases r0
      have D0 : s2.heap.DictOfH (tupleKind (boolKind X.prog X.w)) p [] := ⟨o0, es0, ep0, d1, d2, d3, d4, (fun x hx => by cases hx), List.nodup_nil⟩
      have n1 : a1 ≠ p := ne_of e1 e fun z => nomatch z
      have n2 : a2 ≠ p := ne_of e2 e fun z => nomatch z
      unfold storeAll
      rw [List.forIn_cons]
      refine wpAny_bind (wpAny_bind (wpAny_dictSet_heap (knd := tupleKind (boolKind X.prog X.w)) hu (bkey_of I2.hok e1) D0 (fun h' D1 sb1 => wpAny_pure ?_) (Nat.zero_le _)))
      try dsimp only
      rw [List.forIn_cons]
      have K2 : (tupleKind (boolKind X.prog X.w)).is h' k2 a2 := by
        obtain ⟨o, its, n, g1, g2⟩ := bkey_of I2.hok e2
        exact ⟨o, its, n, (sb1.2 _ n2).trans g1, g2⟩
      have st1 : storedH ([] : List (List Bool × Addr × Value)) k1 a1 v1 = [(k1, a1, v1)] := rfl
      rw [st1] at D1
      refine wpAny_bind (wpAny_bind (wpAny_dictSet_heap (knd := tupleKind (boolKind X.prog X.w)) hu K2 D1 (fun h2 D2 sb2 => wpAny_pure ?_) (by show 1 ≤ sizeLine; decide)))
      try dsimp only
      rw [List.forIn_nil]
      have st2 : storedH [(k1, a1, v1)] k2 a2 v2 = [(k1, a1, v1), (k2, a2, v2)] := by
        rw [storedH_new]
        · rfl
        · simp [atKey, List.lookup_cons, Ne.symm ne]
          exact ne
      rw [st2] at D2
      obtain ⟨o, es, ep, g1, g2, g3, g4, g5, g6⟩ := D2
      refine wpAny_pure ⟨.ref p, _, I2.write (x := p) (e := p) (o := bdO X.prog X.w p [(k1, a1, x1), (k2, a2, x2)]) (by rw [e]; exact trivial) (.inl rfl) (fun b u hb z => (sb2.2 b hb).trans ((sb1.2 b hb).trans z)) ⟨_, g1⟩ ?_, rfl, q2⟩
      refine ⟨⟨hsm, _, o, es, ep, .cons ⟨rfl, rfl, rv1⟩ (.cons ⟨rfl, rfl, rv2⟩ .nil), g1, g2, g3, g4, g6⟩, ⟨_, g1⟩, fun h1 h2 ⟨y, xs, o, es, ep, r, z, z2⟩ k => ⟨y, xs, o, es, ep, r, k _ z, z2⟩⟩
variable {o e f : Expr} {apos cpos : Pos} {td ty tx : TE}
noncomputable def tDGetB (P : Program) (w : World) (td ty tx : TE) : TE := fun σ H Q => td σ H fun x H1 => ∃ p k1 k2 a1 a2 x1 x2, x = .ref p ∧ H1 p = some (bdO P w p [(k1, a1, x1), (k2, a2, x2)]) ∧ k1 ≠ k2 ∧ ty σ H1 fun y H2 => tx σ H2 fun z H3 =>
  H3 p = some (bdO P w p [(k1, a1, x1), (k2, a2, x2)]) ∧ H3 a1 = some (.tup (k1.map V.bl)) ∧ H3 a2 = some (.tup (k2.map V.bl)) ∧ ∃ b k, y = .ref b ∧ H3 b = some (.tup (k.map V.bl)) ∧ Q (if k = k1 then .str x1 else if k = k2 then .str x2 else z) H3
theorem pe_dgetB {P : Program} {w : World} (hP : X.prog = P) (hw : X.w = w) (hu : X.A.units + 1 < cLine) (ho : PE X o td) (he : PE X e ty) (hf : PE X f tx) (m : M2 X o "get" apos e f cpos) : PE X (.Call (.Attribute o "get" apos) [e, f] [] cpos) (tDGetB P w td ty tx) := by
  subst hP
  subst hw
  intro pins s σ H Q I h
  refine wpAny_Call_method m.base m.few m.line PySem.F.plainAttrs_dict PySem.F.slot_dict_get PySem.F.type_dict_get (thn (ho pins s σ H _ I h) fun u s1 ⟨x, H1, I1, rx, p, k1, k2, a1, a2, x1, x2, ex, ep, ne, q1⟩ => ?_)
  subst ex
  obtain rfl : u = Value.ref p := rx
  obtain ⟨⟨hsm, xs, ob, es, ep', rel, d1, d2, d3, d4, d5⟩, _⟩ := I1.hok p _ ep
  refine ⟨⟨ob, d1, d2.1⟩, fun b q => ?_, ?_⟩
  · cases q
    exact ⟨ob, d1, d2.2.1⟩
  rw [m.trees]
  refine Calls.callWith_builtin rfl (Calls.evalArgs_plain (Calls.spliced_cons (thn (he pins s1 σ H1 _ I1 q1) fun iv s2 ⟨y, H2, I2, ry, q2⟩ =>
    Calls.spliced_cons (thn (hf pins s2 σ H2 _ I2 q2) fun fv s3 ⟨z, H3, I3, rz, ep3, e1, e2, b, k, ey, eb, q3⟩ => Calls.spliced_nil ?_))))
  subst ey
  obtain rfl : iv = Value.ref b := ry
  obtain ⟨⟨hsm, xs, ob, es, ep', rel, d1, d2, d3, d4, d5⟩, _⟩ := I3.hok p _ ep3
  cases rel with
  | @cons _ c1 _ cs r1 r2 =>
    cases r2 with
    | @cons _ c2 _ _ r3 r4 =>
      cases r4
      obtain ⟨l1, b1, w1⟩ := c1
      obtain ⟨l2, b2, w2⟩ := c2
      obtain ⟨f1, f2, f3⟩ := r1
      obtain ⟨g1, g2, g3⟩ := r3
      cases f1
      cases f2
      cases g1
      cases g2
      have D : s3.heap.DictOfH (tupleKind (boolKind X.prog X.w)) p [(k1, a1, w1), (k2, a2, w2)] := ⟨ob, es, ep', d1, d2, d3, d4, fun x hx => by
        rcases List.mem_cons.mp hx with rfl | hx
        · exact bkey_of I3.hok e1
        · rw [List.mem_singleton.mp hx]; exact bkey_of I3.hok e2, d5⟩
      refine call_meetsIn PySem.F.slot_dict_get D.typeIs PySem.F.entry_dict_get (PySem.F.args_dict_get_3 _ _ _) (meetsH_dict_get_default (tupleKind (boolKind X.prog X.w)) p b hsm fv) ⟨tupleKind_room_in1 hu, k, _, bkey_of I3.hok eb, D, ?_⟩
      refine ⟨_, H3, I3.tok _, ?_, q3⟩
      by_cases z1 : k = k1
      · subst z1
        rw [if_pos rfl]
        simpa [atKey, List.lookup_cons] using f3
      · rw [if_neg z1]
        by_cases z2 : k = k2
        · subst z2
          rw [if_pos rfl]
          simpa [atKey, List.find?_cons, Ne.symm z1, decide_eq_false (Ne.symm z1 : k1 ≠ k)] using g3
        · rw [if_neg z2]
          simpa [atKey, List.find?_cons, decide_eq_false (Ne.symm z1 : k1 ≠ k), decide_eq_false (Ne.symm z2 : k2 ≠ k)] using rz
end
end L2

namespace L2
open PySem PySem.Spec PyProof.Rows
/-! ### the law's head where some defs make lambdas: the tables of their codes are tracked from the start -/
/-- what is tracked at the start: the tables at ts, all empty, and it may be the script -/
noncomputable def OnlyT (ts : List Addr) (H : Hp) : Prop := (∀ P ∈ ts, H P = some (.tbl #[])) ∧ ∀ b, b ∉ ts → H b = none ∨ ∃ o xs, H b = some (.frz o (.lst xs))
theorem law_callT {P : Program} {w : World} {K : PySem.W.Frag} {mg mb : Str → Option Value} {CX : CXT} {k : Nat} {fa a : Addr} {fd : FuncData} {x : Str} {sp : Sp} {s₁ : Shared} {vs : List Value} {ns : List Int} {ts : List Addr}
    (KX : K.In s₁.heap) (hns : s₁.heap.Ns mainGlobals mg) (hb : s₁.heap.Ns builtinsNs mb) (hbb : ∀ x : Str, x ≠ "__name__" → mb x = bootBuiltins x) (hlim : s₁.heap.NoLimit) (hbm : BMod mg s₁.heap) (hg : s₁.gens = #[])
    (hts : ∀ P ∈ ts, s₁.heap.get? P = some (PySem.W.tabObj #[])) (htc : ∀ P ∈ ts, ∃ c, PySem.W.CodeHd s₁.heap c P) (hKt : PySem.W.noTabs K = true)
    (ha : s₁.heap.get? a = some { cls := .type "list", data := .seq vs.toArray }) (hi : IntsAre vs ns) (hl : ns.length ≤ sizeLine) (hr : Room k callerA)
    (F : ∀ base : Heap, K.In base → base.Ns mainGlobals mg → BMod mg base → FnOk P w K mg base CX k fa fd [x] sp) (hbind : ∀ (s : Shared) (u : Value), BindsTo s fd ⟨[u], []⟩ [(x, u)])
    (hsp : ∀ H : Hp, OnlyT ts H → SqL K H a (ns.map V.int) → sp [.ref a] H (fun v _ => v = .bl true) fun _ _ _ => False)
    (hCX : ∀ H e s', CX [] H s₁ (fun _ _ _ => False) e s' → False) :
    codeAny (model P w) callerA (.call (.ref fa) ⟨[.ref a], []⟩) (fun r s' => r = .ok (.ret (.bool true)) ∧ OldK s₁.heap s'.heap ∧ s'.os = s₁.os ∧ AllBare s'.gens) s₁ := by
  have rv := vals_ints hi
  have lenV := hi.length
  have ats : a ∉ ts := fun z => by
    have := hts a z
    rw [ha] at this
    cases this
  have kT : ∀ b ∈ ts, K.lookup b = none := fun b hb => by
    cases q : K.lookup b with
    | none => rfl
    | some o =>
      have e := KX _ _ q
      rw [hts b hb] at e
      cases e
      have h2 := List.all_eq_true.mp hKt (b, PySem.W.tabObj #[]) (PySem.W.mem_of_lookupK q)
      exact absurd (show false = true from h2) Bool.false_ne_true
  have core : ∀ H : Hp, OnlyT ts H → SqL K H a (ns.map V.int) → HOk P w H s₁.heap → (∀ b, H b ≠ none → b ∈ ts ∨ b = a) → (H a ≠ none → K.lookup a = none) →
      codeAny (model P w) callerA (.call (.ref fa) ⟨[.ref a], []⟩) (fun r s' => r = .ok (.ret (.bool true)) ∧ OldK s₁.heap s'.heap ∧ s'.os = s₁.os ∧ AllBare s'.gens) s₁ := by
    intro H hO hS hok hA hK
    have base_of : ∀ {b : Addr} {o : Obj}, s₁.heap.get? b = some o → H b = none → (hidT s₁.heap H).get? b = some o := fun e n => hidT_get e n
    have noA : ∀ {b : Addr} {o : Obj}, s₁.heap.get? b = some o → (∀ vs n, o.data ≠ .seq vs n) → (∀ vs, o.data ≠ .fields vs) → H b = none := fun {b o} e d1 d2 => by
      cases q : H b with
      | none => rfl
      | some u =>
        rcases hA b (by rw [q]; simp) with z | z
        · rw [hts b z] at e
          cases e
          exact absurd rfl (d2 _)
        · subst z
          rw [ha] at e
          cases e
          exact absurd rfl (d1 _ _)
    have nsK : ∀ {b : Addr} {m : Str → Option Value}, s₁.heap.Ns b m → (hidT s₁.heap H).Ns b m := fun {b m} ⟨o, es, ep, e, d, r⟩ => ⟨o, es, ep, base_of e (noA e (fun _ _ z => by rw [d] at z; cases z) fun _ z => by rw [d] at z; cases z), d, r⟩
    have hKb : K.In (hidT s₁.heap H) := fun b o e => base_of (KX b o e) (by
      cases q : H b with
      | none => rfl
      | some u =>
        rcases hA b (by rw [q]; simp) with z | z
        · rw [kT b z] at e; cases e
        · subst z
          rw [hK (by rw [q]; simp)] at e; cases e)
    have hM : Mod K mg (hidT s₁.heap H) := ⟨hKb, nsK hns, ⟨mb, nsK hb, hbb⟩, let ⟨mc, h1, h2⟩ := hlim; ⟨mc, nsK h1, h2⟩⟩
    have hBM : BMod mg (hidT s₁.heap H) := by
      obtain ⟨bm, ob, b1, b2, b3, b4, b5, b6⟩ := hbm
      exact ⟨bm, ob, b1, b2, base_of b3 (noA b3 (fun _ _ z => by rw [b6] at z; cases z) fun _ z => by rw [b6] at z; cases z), b4, b5, b6⟩
    have e0 : Env0 P w K mg (hidT s₁.heap H) callerA [] s₁ H := ⟨rfl, hM, fun b o e => of_hidT e, Nat.le_of_eq (hidT_size _ _), trivial, fun b hb => absurd (show b ∈ ([] : List Addr) from hb) (by simp), hok, .of_eq hg⟩
    refine codeAny_mono ((F _ hKb (nsK hns) hBM).run callerA [] s₁ H ⟨[.ref a], []⟩ [.ref a] [.ref a] _ _ hr e0 (hbind s₁ (.ref a)) (.cons rfl .nil) (hsp H hO hS)) fun r s' h => ?_
    cases r with
    | error e => exact (hCX H e s' h).elim
    | ok fl =>
      cases fl with
      | next => exact False.elim h
      | brk => exact False.elim h
      | cont => exact False.elim h
      | ret u =>
        obtain ⟨v, H', os, bare, un, hok', r', q⟩ := h
        have q' : v = .bl true := q
        subst q'
        obtain rfl : u = Value.bool true := r'
        have kept : ∀ b o, b ∉ ts → s₁.heap.get? b = some o → s'.heap.get? b = some o := fun b o nb e => by
          cases q : H b with
          | none => exact un.keep b o e q (by intro z; exact absurd (show b ∈ ([] : List Addr) from z) (by simp)) (by simp)
          | some u =>
            rcases hO.2 b nb with z | ⟨ob, xs, z⟩
            · rw [q] at z; cases z
            · have z2 := un.frzs b ob _ z
              obtain ⟨e1, _⟩ := hok b _ z
              obtain ⟨e2, _⟩ := hok' b _ z2
              rw [e] at e1; cases e1
              exact e2
        have grown : ∀ b ∈ ts, ∃ ps, s'.heap.get? b = some (PySem.W.tabObj ps) := fun b hb => by
          obtain ⟨more, e⟩ := un.tbls b _ (hO.1 b hb)
          exact ⟨_, hok' b _ e⟩
        refine ⟨rfl, ⟨fun b o e => ?_, fun b o e => ?_⟩, os, bare⟩
        · by_cases hb : b ∈ ts
          · obtain ⟨ps, hP⟩ := grown b hb
            have e' := hts b hb
            rw [e] at e'
            cases e'
            obtain ⟨c, C⟩ := htc b hb
            exact .inr (.inl ⟨(C.tab (hts b hb)).isCodeTable, rfl, #[], ps, rfl, by rw [Array.empty_append]; exact hP⟩)
          · exact .inl (kept b o hb e)
        · by_cases hb : b ∈ ts
          · obtain ⟨ps, hP⟩ := grown b hb
            exact ⟨_, hP⟩
          · exact ⟨o, kept b o hb e⟩
  cases hk : K.lookup a with
  | some o =>
    have e := KX a o hk
    rw [ha] at e
    cases e
    refine core (fun b => if b ∈ ts then some (.tbl #[]) else none) ⟨fun P h => if_pos h, fun b h => .inl (if_neg h)⟩ (.inr ⟨_, vs.toArray, _, hk, rfl, rfl, rfl, by rw [List.size_toArray, lenV]; exact hl, by simpa using rv⟩) (fun b u z => ?_) (fun b z => ?_) fun z => absurd (if_neg ats) z
    · by_cases hb : b ∈ ts
      · have z' := (if_pos hb).symm.trans z
        cases z'
        exact hts b hb
      · have z' := (if_neg hb).symm.trans z
        cases z'
    · by_cases hb : b ∈ ts
      · exact .inl hb
      · exact absurd (if_neg hb) z
  | none =>
    refine core (fun b => if b ∈ ts then some (.tbl #[]) else if b = a then some (.frz { cls := .type "list", data := .seq vs.toArray } (.lst (ns.map V.int))) else none) ⟨fun P h => if_pos h, fun b h => ?_⟩ (.inl (.inr ⟨{ cls := .type "list", data := .seq vs.toArray }, (if_neg ats).trans (if_pos rfl)⟩)) (fun b u z => ?_) (fun b z => ?_) fun _ => hk
    · by_cases hb : b = a
      · exact .inr ⟨_, _, (if_neg h).trans (if_pos hb)⟩
      · exact .inl ((if_neg h).trans (if_neg hb))
    · by_cases ht : b ∈ ts
      · have z' := (if_pos ht).symm.trans z
        cases z'
        exact hts b ht
      · have z := (if_neg ht).symm.trans z
        by_cases hb : b = a
        · have z' := (if_pos hb).symm.trans z
          cases z'
          subst hb
          exact ⟨ha, by rw [List.length_map]; exact hl, vs, _, rv, ha⟩
        · have z' := (if_neg hb).symm.trans z
          cases z'
    · by_cases ht : b ∈ ts
      · exact .inl ht
      · by_cases hb : b = a
        · exact .inr hb
        · exact absurd ((if_neg ht).trans (if_neg hb)) z
theorem walk_ofT {l : PySem.W.OpenLaw} {n k : Nat} {q : Program} {loose : List Str} {XP : (Str → Option Value) → Heap → Prop} {YP : World → Heap → Prop} {d : DefRec} {K : Params → PySem.W.Frag} {CX : World → CXT} {sp : World → Sp} {x : Str} {ts : List Addr}
    (hn : l.most = some n) (hn2 : n ≤ sizeLine) (hdf : d.params.defaults = []) (hr : Room k callerA)
    (hY : ∀ (w : World) (h : Heap), YP w h → (K w.params).In h) (hT : ∀ (w : World) (h : Heap), YP w h → ∀ P ∈ ts, h.get? P = some (PySem.W.tabObj #[])) (hC : ∀ (w : World), ∀ P ∈ ts, ∃ c, PySem.W.codeHdIn (K w.params) c P = true) (hNo : ∀ w : World, PySem.W.noTabs (K w.params) = true)
    (F : ∀ (w : World) (mg : Str → Option Value) (fa : Addr) (h : Heap), (K w.params).In h → h.Ns mainGlobals mg → mg d.name = some (.ref fa) →
      ∃ fd : FuncData, (∀ (s : Shared) (u : Value), BindsTo s fd ⟨[u], []⟩ [(x, u)]) ∧
        ∀ base : Heap, (K w.params).In base → base.Ns mainGlobals mg → BMod mg base → FnOk l.prog w (K w.params) mg base (CX w) k fa fd [x] (sp w))
    (hsp : ∀ (w : World) (H : Hp) (a : Addr) (ns : List Int), ns.length ≤ n → OnlyT ts H → SqL (K w.params) H a (ns.map V.int) → sp w [.ref a] H (fun v _ => v = .bl true) fun _ _ _ => False)
    (hCX : ∀ (w : World) (H : Hp) (s : Shared) (e : Value) (s' : Shared), CX w [] H s (fun _ _ _ => False) e s' → False) :
    PySem.W.WalkO q loose XP YP l.row.toRowW d [] (fun f vs => PySem.call f vs) := by
  refine Att.attach_call hn hdf fun w s₀ s₁ mg mb fa o pm cd doc a vs ns G Y ho hd hcd hmg hobj hints hlen hg => ?_
  have KX := hY w _ Y
  obtain ⟨fd, hb, hF⟩ := F w mg fa _ KX G.T.g hmg
  exact law_callT KX G.T.g G.T.b G.T.builtins G.T.nolimit G.T.bmain hg (hT w _ Y) (fun P hP => let ⟨c, e⟩ := hC w P hP; ⟨c, PySem.W.codeHd_of_K KX e⟩) (hNo w) hobj hints (Nat.le_trans hlen hn2) hr hF hb (fun H hO hS => hsp w H a ns hlen hO hS) fun H e s' => hCX w H s₁ e s'
/-- a def that makes lambdas: its code is told -/
theorem Fun.okT {P : Program} {w : World} {K : PySem.W.Frag} {mg : Str → Option Value} {base : Heap} {x qual : Str} {st : Stmt} {f c : Addr} {fd : FuncData} {N ps : List Str} {k : Nat} {sp : Sp} {CX : CXT} (F : Fun K x qual st f fd) (hc : fd.code = .ref c) (S : FnScope N ps (defScope st)) (len : ∀ vs H Q E, sp vs H Q E → vs.length = ps.length)
    (hbody : ∀ (A : Around) (outer : List Env) (s : Shared) (H : Hp) (vs : List V) (Q : VK) (E : XK), Room k (A.deeper (envOfC qual (defScope st) s.heap.objs.size f (.ref c))) → sp vs H Q E →
      ∃ t, PSs (cxOf CX P w K mg base N qual (defScope st) f (.ref c) A outer s H E) (defBody st) t ∧ t { nx := fun _ H' => Q .non H', rt := Q } (start N vs) H) : FnOk P w K mg base CX (k + 1) f fd ps sp := by
  obtain ⟨oc, od, kV, doc, pm, an, cdv, ct, osl, rfl, lk, hcd⟩ := F.ex
  have hc' : cdv = .ref c := hc
  subst hc'
  exact fn_of lk hcd S len fun A outer s H vs Q E hr hsp => hbody A outer s H vs Q E hr hsp
end L2

namespace L2
open PySem PySem.Spec PyProof.Rows
section
variable {prog : Program} {w : World} {A : Around} {E : Value → Shared → Prop} {s : Shared}
/-- enumerate(xs, start=k): what the type's own making gives -/
theorem new_enumS {l : Addr} {items : Array Value} {k : Int} {t : Tok} {R : PySem.Fin → Shared → Prop} (hL : s.heap.IsList l items) (fits : Builtin.SmallTypes.fitsIndex k = true)
    (h : R (.done (.ret (.ref (s.heap.push { cls := .type "list_iterator", data := .fields #[.ref l, .int 0 0] }).objs.size))) { s with heap := (s.heap.push { cls := .type "list_iterator", data := .fields #[.ref l, .int 0 0] }).push { cls := .type "enumerate", data := .fields #[.none, .bool false, .ref s.heap.objs.size, rawInt k, .none, .none] } }) :
    wpAny (model prog w) A (Builtin.«enumerate.__new__» ⟨[.type "enumerate", .ref l], [(Str.ofString "start", .int k t)]⟩) R E s := by
  have hsub := PySem.sub_enumerate
  unfold Builtin.«enumerate.__new__»
  wp_walk using wpAny_pyIter_list hL
  refine wpAny_stack_any fun st => wpAny_pure ?_
  split
  case h_1 c _ _ _ _ _ => cases (c == Value.type "enumerate") <;> (wp_walk using wpAny_pyIter_list hL; exact h)
  case h_2 => wp_walk using wpAny_pyIter_list hL; exact h
theorem call_enumS {l : Addr} {items : Array Value} {k : Int} {t : Tok} {Q : Value → Shared → Prop} (hL : s.heap.IsList l items) (fits : Builtin.SmallTypes.fitsIndex k = true)
    (h : Q (.ref (s.heap.push { cls := .type "list_iterator", data := .fields #[.ref l, .int 0 0] }).objs.size) { s with heap := (s.heap.push { cls := .type "list_iterator", data := .fields #[.ref l, .int 0 0] }).push { cls := .type "enumerate", data := .fields #[.none, .bool false, .ref s.heap.objs.size, rawInt k, .none, .none] } }) :
    wpAny (model prog w) A (call (.type "enumerate") [.ref l] [(Str.ofString "start", .int k t)]) Q E s := by
  refine wpAny_call ?_
  refine codeAny_of_tree ?_
  wp_walk
  have C := F.called_enumerate
  obtain ⟨c, tl, hm⟩ := C.mro
  have n1 := C.notType
  have n2 := C.canCreate
  have n3 := C.made
  have n4 := C.sub
  have chk : checkTypeCall "enumerate" ⟨[.ref l], [(Str.ofString "start", .int k t)]⟩ = pure () := by kernel_rfl
  constructor
  · exact Code.quiet_builtin _ (by decide +kernel)
  refine codeAny_builtin F.entry_type_call ?_
  unfold Builtin.«type.__call__»
  wp_walk
  have chn : checkBuiltinCall "enumerate.__new__" ⟨[.type "enumerate", .ref l], [(Str.ofString "start", .int k t)]⟩ = pure () := by kernel_rfl
  refine codeAny_call_builtin C.plain F.entry_enumerate_new (wpAny_of_eq chn (new_enumS hL fits ?_))
  have ty : Shared.TypeIs { s with heap := (s.heap.push { cls := .type "list_iterator", data := .fields #[.ref l, .int 0 0] }).push { cls := .type "enumerate", data := .fields #[.none, .bool false, .ref s.heap.objs.size, rawInt k, .none, .none] } } (.ref (s.heap.push { cls := .type "list_iterator", data := .fields #[.ref l, .int 0 0] }).objs.size) "enumerate" := ⟨_, Heap.get?_push_size _ rfl, rfl⟩
  have li := C.init.lookup
  have bi := C.init.bind (.ref (s.heap.push { cls := .type "list_iterator", data := .fields #[.ref l, .int 0 0] }).objs.size)
  wp_walk
  have ok : argsOk "object.__init__" ⟨[.ref (s.heap.push { cls := .type "list_iterator", data := .fields #[.ref l, .int 0 0] }).objs.size, .ref l], [(Str.ofString "start", .int k t)]⟩ := by
    unfold argsOk
    kernel_rfl
  refine codeAny_call_builtin C.init.plain F.entry_object_init (C.init.check _ _ _ _ _ _ _ _ ty ok ?_)
  unfold Builtin.«object.__init__»
  wp_walk
  exact h
theorem Draws.later {prog : Program} {w : World} {A : Around} {it : Addr} {fp : List Addr} {n : Nat} {P : Nat → Value → Prop} {St : Nat → Heap → Prop} (D : Draws prog w A it fp n P St) (k : Nat) : Draws prog w A it fp (n + k) (fun i x => ∃ j, i = j + k ∧ P j x) (fun i h => ∃ j, i = j + k ∧ St j h) where
  live := fun i h ⟨j, _, st⟩ => D.live j h st
  frame := fun i h h' ⟨j, e, st⟩ hk => ⟨j, e, D.frame j h h' st hk⟩
  item := fun i s Q E hi ⟨j, e, st⟩ hQ => D.item j s Q E (by omega) st fun x h' tk hP hS hb => hQ x h' tk ⟨j, e, hP⟩ ⟨j + 1, by omega, hS⟩ hb
  done := fun s Q E ⟨j, e, st⟩ hE => by
    have ej : j = n := by omega
    subst ej
    exact D.done s Q E st hE
end
section
variable {X : Cx} {pins : List (Addr × Obj)} {σ : St} {H : Hp} {s : Shared}
noncomputable def ItS (K : PySem.W.Frag) (l : Addr) (k : Nat) : It :=
  ⟨fun i H => ∃ xs x, SqL K H l xs ∧ xs[i]? = some x,
   fun i H v H' => ∃ t x, v = .ref t ∧ H t = none ∧ (∀ xs, SqL K H l xs → xs[i]? = some x) ∧ H' = upd H t (.tup [vN (i + k), x]),
   fun i H => ∃ xs, SqL K H l xs ∧ xs.length = i⟩
noncomputable def tnS (e it l : Addr) (k i : Nat) (h : Heap) : Prop := (∃ old, IsEnum h e it ((i + k : Nat) : Int) old) ∧ h.IsListIter it l i
theorem turn_enumS {P : Program} {w : World} {K : PySem.W.Frag} {es : List Expr} {n : Nat} {tp : Pos} {e it l : Addr} {k : Nat} (hne : e ≠ it) (hel : e ≠ l) : Turn P w K (.Tuple es n tp) (ItS K l k) [e, it] e (tnS e it l k) where
  mem := by simp
  obj := fun i h st c hc => by
    obtain ⟨⟨old, hE⟩, ⟨oa, ea, _, da⟩⟩ := st
    rcases List.mem_cons.mp hc with rfl | hc
    · exact ⟨_, hE, fun v r => by cases r⟩
    · rw [List.mem_singleton.mp hc]
      exact ⟨_, ea, fun v r => by rw [da] at r; cases r⟩
  keep := fun i h h' st kp => by
    obtain ⟨⟨old, hE⟩, ha⟩ := st
    exact ⟨⟨old, kp e (by simp) _ hE⟩, ha.at fun o z => kp it (by simp) o z⟩
  item := by
    intro X hP hw hK hc i pins s σ H E I hf st hg
    subst hP hw hK
    obtain ⟨xs, x, hx, ex⟩ := hg
    obtain ⟨⟨old, hE⟩, ha⟩ := st
    obtain ⟨i1, r1, t1, _⟩ := I.list hx
    obtain ⟨x', ex', rx⟩ := r1.get ex
    have hli : l ≠ it := fun z => by
      obtain ⟨o1, h1, c1, _⟩ := t1.isList
      obtain ⟨o2, h2, c2, _⟩ := ha
      rw [z, h2] at h1
      rw [← Option.some.inj h1, c2] at c1
      exact absurd c1 (by decide)
    have hi1 : i < i1.toArray.size := by
      have := (List.getElem?_eq_some_iff.mp ex').1
      simpa using this
    have D := L2.Draws.later (Draws.list (prog := X.prog) (w := X.w) (A := X.A.in1) (I.ok.hd hc) it l hli i1.toArray) k
    refine wpAny_pyNext_enum_itemD D hE ⟨i, rfl, ha, t1.isList⟩ (by omega) hne (by simp [hne, hel]) fun y g tk hP c1 hS c3 c4 c5 => ⟨_, rfl, ?_⟩
    obtain ⟨j, ej, hP⟩ := hP
    obtain ⟨j', ej', hit', _⟩ := hS
    have e1 : j = i := by omega
    have e2 : j' = i + 1 := by omega
    subst e1 e2
    have ey : y = x' := by
      have h1 : i1[j]? = some y := by simpa using hP
      rw [ex'] at h1
      exact (Option.some.inj h1).symm
    subst ey
    refine wpAny_letOwnedTupleGo_enum c1 fun g' z' k' => ?_
    have nT : H s.heap.objs.size = none := I.fresh
    have IA : Inv X pins σ (upd H s.heap.objs.size (.tup [vN (j + k), x])) { s with heap := s.heap.push { cls := .type "tuple", data := .seq #[.int ((j + k : Nat) : Int) tk, y] }, toks := tk + 1 } :=
      I.laid (t' := tk + 1) (fun c o z => Heap.get?_push_of_some _ z) (Nat.le_refl _) (show ObjOk X.prog X.w _ _ _ (.tup [vN (j + k), x]) from ⟨by show 2 ≤ sizeLine; decide, [.int ((j + k : Nat) : Int) tk, y], .cons ⟨_, rfl⟩ (.cons rx .nil), ⟨_, Heap.get?_push_size _ rfl, rfl, _, rfl⟩⟩)
    have fp : ∀ c ∈ [e, it], FpOk X pins (upd H s.heap.objs.size (.tup [vN (j + k), x])) c := fun c hc' => by
      have lt : c < s.heap.objs.size := by
        rcases List.mem_cons.mp hc' with rfl | hc'
        · exact Heap.lt_size hE
        · rw [List.mem_singleton.mp hc']
          obtain ⟨_, z, _⟩ := ha; exact Heap.lt_size z
      have f := hf c hc'
      exact ⟨by rw [upd_ne (Nat.ne_of_lt lt)]; exact f.1, f.2⟩
    have IB : Inv X pins σ (upd H s.heap.objs.size (.tup [vN (j + k), x])) { s with heap := g', toks := tk + 1 } := by
      refine IA.turnedL (t' := tk + 1) (h' := g') (fun c o hc' z => ?_) fp
      have n1 : c ≠ e := fun w => hc' (by rw [w]; exact List.mem_cons_self ..)
      have n2 : c ≠ it := fun w => hc' (by rw [w]; exact List.mem_cons_of_mem _ (List.mem_cons_self ..))
      refine k'.extBut _ _ n1 ?_
      by_cases hcT : c = s.heap.objs.size
      · rw [hcT] at z ⊢
        rw [Heap.get?_push_size _ rfl] at z
        rw [← z]; exact c3
      · rw [Heap.get?_push_ne _ _ _ hcT] at z
        exact c5 c o n1 n2 z
    refine ⟨.ref s.heap.objs.size, _, IB, rfl, ⟨_, x, rfl, nT, fun zs hz => by rw [I.list_inj hz hx]; exact ex, rfl⟩, ⟨⟨y, ?_⟩, hit'.extBut k'.extBut hne.symm⟩, fun c hc' => (fp c hc').1⟩
    have ei : ((j + 1 + k : Nat) : Int) = ((j + k : Nat) : Int) + 1 := by omega
    rw [ei]
    exact z'
  done := by
    intro X hP hw hK hc i pins s σ H E I hf st hg
    subst hP hw hK
    obtain ⟨xs, hx, hl⟩ := hg
    obtain ⟨⟨old, hE⟩, ha⟩ := st
    obtain ⟨i1, r1, t1, _⟩ := I.list hx
    have len := r1.length
    have hli : l ≠ it := fun z => by
      obtain ⟨o1, h1, c1, _⟩ := t1.isList
      obtain ⟨o2, h2, c2, _⟩ := ha
      rw [z, h2] at h1
      rw [← Option.some.inj h1, c2] at c1
      exact absurd c1 (by decide)
    have D := L2.Draws.later (Draws.list (prog := X.prog) (w := X.w) (A := X.A.in1) (I.ok.hd hc) it l hli i1.toArray) k
    refine wpAny_pyNext_enum_endD D hE ⟨i, by rw [List.size_toArray]; omega, ha, t1.isList⟩ fun g hk => ⟨rfl, ?_⟩
    refine I.turnedL (t' := s.toks) (h' := g) (ch := [e, it]) (fun c o hc' z => hk c o (fun w => hc' (by rw [w]; exact List.mem_cons_of_mem _ (List.mem_cons_self ..))) z) hf
  self := fun _ _ _ _ _ st h => by
    obtain ⟨⟨old, hE⟩, _⟩ := st
    exact wpAny_pyIter_enum hE h
noncomputable def iEnumS (K : PySem.W.Frag) (ta tk : TA) : TI := fun σ H R => ta σ H fun vs H1 => tk σ H1 fun zs H2 => ∃ (l : Addr) (xs : List V) (k : Nat), vs = [.ref l] ∧ zs = [vN k] ∧ k ≤ 1000 ∧ SqL K H2 l xs ∧ R (ItS K l k) H2
theorem pi_enumS {K : PySem.W.Frag} {es : List Expr} {n : Nat} {tp : Pos} {e1 e2 : Expr} {ta tk : TA} {np pos kp : Pos} (hK : X.K = K) (hg : Gl X "enumerate") (hm : X.mg "enumerate" = none) (ha : PA X [e1] ta) (hkw : PK X [⟨some "start", e2, kp⟩] tk)
    (he : starEach [e1] X.env = (false, eval e1 X.env) :: starEach [] X.env := by rfl) (hall : (backToKw pos (keywordEach [⟨some "start", e2, kp⟩] X.env)).all (·.1.isSome) = true := by rfl)
    (hpl : ((backTo pos (starEach [e1] X.env)).any (·.1) || (backToKw pos (keywordEach [⟨some "start", e2, kp⟩] X.env)).any (·.1.isNone)) = false := by rfl)
    (hnm : (backToKw pos (keywordEach [⟨some "start", e2, kp⟩] X.env)).filterMap (·.1) = [Str.ofString "start"] := by rfl) :
    PI X (.Tuple es n tp) (.Call (.Name "enumerate" np) [e1] [⟨some "start", e2, kp⟩] pos) (iEnumS K ta tk) := by
  subst hK
  intro pins s σ H R I h
  refine wpAny_Call_Name_kw (ld_blt I hg hm boot_enumerate ?_)
  refine PySem.W.callWith_of (P := fun _ => True) hpl (fun g _ => ⟨.machine, .inr (.inl rfl), PySem.W.Looks.of_pure rfl⟩) (evalArgs_kw2 hall (thn (ha pos pins s σ H _ I h) fun us s1 ⟨vs, H1, I1, r1, q1⟩ => thn (hkw pos pins s1 σ H1 _ I1 q1) fun ws s2 ⟨zs, H2, I2, rz, q2⟩ => ⟨True.intro, ?_⟩) he)
  rw [hnm]
  obtain ⟨l, xs, k, rfl, rfl, hk, hl, r⟩ := q2
  obtain ⟨u1, rfl, ru1⟩ := r1.one
  cases ru1
  obtain ⟨u2, rfl, t, rfl⟩ := rz.one
  obtain ⟨i1, v1, t1, _⟩ := I2.list hl
  refine call_enumS (k := (k : Int)) (t := t) t1.isList ?_ ?_
  · unfold Builtin.SmallTypes.fitsIndex
    simp
    omega
  have hz : (s2.heap.push { cls := .type "list_iterator", data := .fields #[.ref l, .int 0 0] }).objs.size = s2.heap.objs.size + 1 := Heap.size_push ..
  have hE : IsEnum ((s2.heap.push { cls := .type "list_iterator", data := .fields #[.ref l, .int 0 0] }).push { cls := .type "enumerate", data := .fields #[.none, .bool false, .ref s2.heap.objs.size, rawInt (k : Int), .none, .none] }) (s2.heap.push { cls := .type "list_iterator", data := .fields #[.ref l, .int 0 0] }).objs.size s2.heap.objs.size ((0 + k : Nat) : Int) .none := by
    rw [Nat.zero_add]
    exact Heap.get?_push_size _ rfl
  have hI : ((s2.heap.push { cls := .type "list_iterator", data := .fields #[.ref l, .int 0 0] }).push { cls := .type "enumerate", data := .fields #[.none, .bool false, .ref s2.heap.objs.size, rawInt (k : Int), .none, .none] }).IsListIter s2.heap.objs.size l 0 := ⟨_, Heap.get?_push_of_some _ (Heap.get?_push_size _ rfl), rfl, rfl⟩
  have ll : l < s2.heap.objs.size := by
    obtain ⟨o, ho, _⟩ := t1.isList
    exact Heap.lt_size ho
  have ne1 : (s2.heap.push { cls := .type "list_iterator", data := .fields #[.ref l, .int 0 0] }).objs.size ≠ s2.heap.objs.size := by rw [hz]; exact Nat.succ_ne_self _
  have ne2 : (s2.heap.push { cls := .type "list_iterator", data := .fields #[.ref l, .int 0 0] }).objs.size ≠ l := by rw [hz]; exact Nat.ne_of_gt (Nat.lt_succ_of_lt ll)
  refine wpAny_pyIter_enum hE ⟨_, [_, s2.heap.objs.size], tnS _ s2.heap.objs.size l k, ItS X.K l k, H2, rfl, I2.kept (t' := s2.toks) (fun b o e => Heap.get?_push_of_some _ (Heap.get?_push_of_some _ e)), turn_enumS ne1 ne2, ⟨⟨_, hE⟩, hI⟩, fun c hc => ?_, r⟩
  have lc : s2.heap.objs.size ≤ c := by
    rcases List.mem_cons.mp hc with rfl | hc
    · rw [hz]; omega
    · rw [List.mem_singleton.mp hc]; exact Nat.le_refl _
  exact I2.fpOk lc (I2.hok.fresh lc)
end
end L2

namespace L2
open PySem PySem.Spec PyProof.Rows
/-! ### enumerate from a number on, in a comprehension; tuples added, the left one empty or not; max -/
theorem lc_enumS {K : PySem.W.Frag} {a : Addr} {xs : List V} {n k : Nat} {g : TG} {tc : TT} {te : TE} {σ : St} {H : Hp} {F : List V → Hp → Prop} (Pv : Nat → List V → Hp → Prop) (hn : xs.length ≤ 1000000) (h0 : Pv 0 [] H)
    (hl : ∀ i acc H, i ≤ xs.length → Pv i acc H → SqL K H a xs ∧ acc.length ≤ i)
    (hs : ∀ i x acc H t, xs[i]? = some x → Pv i acc H → H t = none → g (.ref t) (List.replicate n none ++ σ) (upd H t (.tup [vN (i + k), x])) fun σ2 H2 => σ2.drop n = σ ∧ tc σ2 H2 fun c H3 => if c = true then te σ2 H3 fun y H4 => Pv (i + 1) (acc ++ [y]) H4 else Pv (i + 1) acc H3)
    (hd : ∀ acc H, Pv xs.length acc H → F acc H) : LCW n (ItS K a k) g tc te σ H F := by
  have sz : (1000000 : Nat) < sizeLine := by rw [sizeLine_eq]; decide
  refine ⟨fun i m acc H => m = xs.length - i ∧ i ≤ xs.length ∧ Pv i acc H, ⟨xs.length, by simp, Nat.zero_le _, h0⟩, ?_⟩
  rintro i m acc H ⟨rfl, hi, p⟩
  have q := hl i acc H hi p
  by_cases hlt : i < xs.length
  · refine .inr ⟨⟨xs, xs[i], q.1, by simp [hlt]⟩, by omega, Pv (i + 1), fun acc' H' p' => ⟨xs.length - (i + 1), by omega, rfl, hlt, p'⟩, fun x H' y => ?_⟩
    obtain ⟨t, z, rfl, nt, y, rfl⟩ := y
    exact hs i z acc _ t (y xs q.1) p nt
  · have e : i = xs.length := by omega
    subst e
    exact .inl ⟨⟨xs, q.1, rfl⟩, by omega, hd acc H p⟩
section
variable {X : Cx} {K : PySem.W.Frag}
noncomputable def rCatA (K : PySem.W.Frag) : R2 := fun x y H Q => ∃ a b xs ys, x = .ref a ∧ y = .ref b ∧ SqT K H a xs ∧ SqT K H b ys ∧ xs.length + ys.length ≤ sizeLine ∧ (xs = [] → Q (.ref b) H) ∧ (xs ≠ [] → ys = [] → Q (.ref a) H) ∧ (xs ≠ [] → ys ≠ [] → ∀ p, H p = none → Q (.ref p) (upd H p (.tup (xs ++ ys))))
theorem op_catA (hK : X.K = K) : OpR X (binaryOp .Add) (rCatA K) := by
  subst hK
  intro pins s σ H x y v u Q I rx ry h
  obtain ⟨a, b, xs, ys, rfl, rfl, ha, hb, hz, q0, q1, q2⟩ := h
  by_cases hx : xs = []
  · cases rx
    cases ry
    obtain ⟨its, r1, p1, _⟩ := I.tuple ha
    obtain ⟨its2, r2, p2, _⟩ := I.tuple hb
    obtain ⟨⟨cls, dd, data, sl⟩, ho, hc, n, hd⟩ := id p1
    obtain ⟨⟨cls2, dd2, data2, sl2⟩, ho2, hc2, n2, hd2⟩ := id p2
    simp only at hc hd hc2 hd2
    subst hc hd hc2 hd2
    exact concat_meets ⟨_, ho, rfl⟩ ⟨_, ho2, rfl⟩ noFill_tuple_add seq_tuple_add PySem.F.slot_tuple_add PySem.F.entry_tuple_add (PySem.F.args_tuple_add_2 _ _)
      (tuple_addW0 a b its.toArray its2.toArray n n2 dd dd2 sl sl2 (by rw [r1.nil_iff.mpr hx]; rfl)) ⟨ho, ho2, ⟨.ref b, H, I, rfl, q0 hx⟩⟩
  · exact op_catT pins s σ H _ _ v u Q I rx ry ⟨a, b, xs, ys, rfl, rfl, ha, hb, hx, hz, q1 hx, q2 hx⟩
theorem call_maxN (hc : X.calm = true) : CallR X (.builtin "max") (fun xs H Q => ∃ i j : Int, xs = [.int i, .int j] ∧ Q (.int (max i j)) H) := fun pins s σ H xs us Q I r h => call_max2 hc pins s σ H xs us Q I r (by
  obtain ⟨i, j, rfl, q⟩ := h
  refine ⟨i, j, rfl, ?_⟩
  have e : (if j > i then j else i) = max i j := by omega
  rw [e]; exact q)
theorem call_minI (hc : X.calm = true) : CallR X (.builtin "min") (fun xs H Q => ∃ i j : Int, xs = [.int i, .int j] ∧ Q (.int (min i j)) H) := fun pins s σ H xs us Q I r h => call_min2 hc pins s σ H xs us Q I r (by
  obtain ⟨i, j, rfl, q⟩ := h
  refine ⟨i, j, rfl, ?_⟩
  have e : (if j < i then j else i) = min i j := by omega
  rw [e]; exact q)
end
end L2

namespace L2
open PySem PySem.Spec PyProof.Rows
/-! ### filling a table, told exactly -/
noncomputable abbrev Tbl := List (List Int)
/-- rows as a list of addresses beside their numbers -/
structure TB (H : Hp) (m : Nat) (ts : List Addr) (T : Tbl) : Prop where
  len : ts.length = T.length
  at_ : ∀ (i : Nat) (t : Addr) (r : List Int), ts[i]? = some t → T[i]? = some r → H t = some (.tup (r.map V.int))
  rl : ∀ r ∈ T, r.length = m
theorem TB.same {H H' : Hp} {m : Nat} {ts : List Addr} {T : Tbl} (h : TB H m ts T) (e : Same H H') : TB H' m ts T := ⟨h.len, fun i t r h1 h2 => e _ _ (h.at_ i t r h1 h2), h.rl⟩
theorem TB.get {H : Hp} {m i : Nat} {ts : List Addr} {T : Tbl} {t : Addr} (h : TB H m ts T) (e : ts[i]? = some t) : ∃ r, T[i]? = some r ∧ H t = some (.tup (r.map V.int)) ∧ r.length = m := by
  have hi : i < T.length := by rw [← h.len]; exact (List.getElem?_eq_some_iff.mp e).1
  exact ⟨T[i], List.getElem?_eq_getElem hi, h.at_ i t _ e (List.getElem?_eq_getElem hi), h.rl _ (List.getElem_mem hi)⟩
theorem TB.nil (H : Hp) (m : Nat) : TB H m [] [] := ⟨rfl, (fun i a r h => by cases h), fun r h => absurd h List.not_mem_nil⟩
theorem TB.snoc {H : Hp} {m : Nat} {ts : List Addr} {T : Tbl} {t : Addr} {r : List Int} (h : TB H m ts T) (ht : H t = some (.tup (r.map V.int))) (hr : r.length = m) : TB H m (ts ++ [t]) (T ++ [r]) := by
  refine ⟨by rw [List.length_append, List.length_append, h.len]; rfl, fun i b r' h1 h2 => ?_, fun r' hr' => ?_⟩
  · by_cases z : i < ts.length
    · rw [List.getElem?_append_left z] at h1
      rw [List.getElem?_append_left (by rw [← h.len]; exact z)] at h2
      exact h.at_ i b r' h1 h2
    · have hi : i < (ts ++ [t]).length := (List.getElem?_eq_some_iff.mp h1).1
      rw [List.length_append, List.length_singleton] at hi
      have ei : i = ts.length := by omega
      rw [ei, List.getElem?_append_right (Nat.le_refl _), Nat.sub_self] at h1
      rw [ei, h.len, List.getElem?_append_right (Nat.le_refl _), Nat.sub_self] at h2
      rw [← Option.some.inj h1, ← Option.some.inj h2]
      exact ht
  · rcases List.mem_append.mp hr' with hr' | hr'
    · exact h.rl r' hr'
    · rw [List.mem_singleton.mp hr']; exact hr
noncomputable def unlN (r1 r2 : List Int) (s : Nat) : Option Nat := (colsN s).find? fun c => !decide (r1.getD c 0 = r2.getD c 0)
noncomputable def rowT (T : Tbl) (i : Nat) : List Int := T.getD i []
theorem rowT_of {T : Tbl} {i : Nat} {r : List Int} (h : T[i]? = some r) : rowT T i = r := by unfold rowT; rw [List.getD_eq_getElem?_getD, h]; rfl
noncomputable def tryP (T : Tbl) (x y i j : Nat) : Option (Nat × Nat × Nat) := if alikeL (rowT T i) (rowT T j) x = true then (unlN (rowT T i) (rowT T j) y).map fun c => (i, j, c) else none
noncomputable def inP (T : Tbl) (x y i : Nat) : Option (Nat × Nat × Nat) := (List.range' (i + 1) (T.length - (i + 1))).findSome? (tryP T x y i)
noncomputable def firstP (T : Tbl) (x y : Nat) : Option (Nat × Nat × Nat) := (List.range T.length).findSome? (inP T x y)
noncomputable def tryS (T : Tbl) (rs : List RD) (k : Nat) : Option (Nat × Nat × Nat × Nat) := match rs[k]? with
  | some (true, x, y) => (firstP T x y).map fun p => (k, p)
  | _ => none
noncomputable def firstS (T : Tbl) (rs : List RD) : Option (Nat × Nat × Nat × Nat) := (List.range rs.length).findSome? (tryS T rs)
theorem some_hit {α β : Type} {f : α → Option β} {l : List α} {i : Nat} {a : α} {b : β} (h0 : (l.take i).findSome? f = none) (e : l[i]? = some a) (h : f a = some b) : l.findSome? f = some b := by
  have hs : l = l.take i ++ a :: l.drop (i + 1) := by
    have hi := (List.getElem?_eq_some_iff.mp e).1
    have e2 := (List.getElem?_eq_some_iff.mp e).2
    rw [← e2, ← List.drop_eq_getElem_cons hi, List.take_append_drop]
  rw [hs, List.findSome?_append, h0, List.findSome?_cons, h]; rfl
theorem some_miss {α β : Type} {f : α → Option β} {l : List α} {i : Nat} {a : α} (h0 : (l.take i).findSome? f = none) (e : l[i]? = some a) (h : f a = none) : (l.take (i + 1)).findSome? f = none := by
  rw [List.take_succ, e, List.findSome?_append, h0]
  simp [h]
theorem range'_get {s n i : Nat} (h : i < n) : (List.range' s n)[i]? = some (s + i) := by
  rw [List.getElem?_range' h, Nat.one_mul]
noncomputable def spUnlike (K : PySem.W.Frag) : Sp := fun vs H Q _ => ∃ (a b : Addr) (r1 r2 : List Int) (s m : Nat), vs = [.ref a, .ref b, vN s] ∧ H a = some (.tup (r1.map V.int)) ∧ H b = some (.tup (r2.map V.int)) ∧ r1.length = m ∧ r2.length = m ∧ m ≤ 7 ∧ s < 2 ^ m ∧
  (∀ H', Same H H' → unlN r1 r2 s = none → Q .non H') ∧ ∀ c H', Same H H' → unlN r1 r2 s = some c → Q (vN c) H'
noncomputable def spFirstPlace (K : PySem.W.Frag) : Sp := fun vs H Q _ => ∃ (tl r : Addr) (ts : List Addr) (T : Tbl) (m x y : Nat) (st : Bool), vs = [.ref tl, .ref r] ∧ SqL K H tl (ts.map V.ref) ∧ TB H m ts T ∧ m ≤ 7 ∧ T.length ≤ 20 ∧ RuleAt H r st x y ∧ x < 2 ^ m ∧ y < 2 ^ m ∧
  (∀ H', Same H H' → firstP T x y = none → Q .non H') ∧ ∀ (p : Nat × Nat × Nat) (t : Addr) (H' : Hp), Same H H' → firstP T x y = some p → H t = none → H' t = some (.tup [vN p.1, vN p.2.1, vN p.2.2]) → Q (.ref t) H'
noncomputable def spFirstStep (K : PySem.W.Frag) : Sp := fun vs H Q _ => ∃ (rl tl : Addr) (rs : List Rl) (ts : List Addr) (T : Tbl) (m : Nat), vs = [.ref rl, .ref tl] ∧ SqL K H rl (rs.map fun r => V.ref r.r) ∧ RulesAt H m rs ∧ rs.length ≤ 200 ∧ SqL K H tl (ts.map V.ref) ∧ TB H m ts T ∧ m ≤ 7 ∧ T.length ≤ 20 ∧
  (∀ H', Same H H' → firstS T (rs.map Rl.d) = none → Q .non H') ∧ ∀ (p : Nat × Nat × Nat × Nat) (t : Addr) (H' : Hp), Same H H' → firstS T (rs.map Rl.d) = some p → H t = none → H' t = some (.tup [vN p.1, vN p.2.1, vN p.2.2.1, vN p.2.2.2]) → Q (.ref t) H'
end L2

namespace L2
open PySem PySem.Spec PyProof.Rows
theorem for_rangeF {a n : Nat} {g : TG} {tb : TS} {D : Ends} {σ : St} {H : Hp} (Pv : Nat → St → Hp → Prop) (h0 : Pv 0 σ H)
    (hs : ∀ i σ H, i < n → Pv i σ H → g (vN (a + i)) σ H fun σ2 H2 => tb { D with nx := Pv (i + 1), ct := Pv (i + 1), bk := D.nx } σ2 H2) (hd : ∀ σ H, Pv n σ H → D.nx σ H) :
    ∃ W : Nat → Nat → St → Hp → Prop, (∃ m, W 0 m σ H) ∧ ∀ i m σ H, W i m σ H →
      ((Itr (a : Int) n).stop i H ∧ D.nx σ H) ∨ ((Itr (a : Int) n).go i H ∧ ∃ N : St → Hp → Prop, (∀ σ' H', N σ' H' → ∃ m', m' < m ∧ W (i + 1) m' σ' H') ∧ ∀ x H', (Itr (a : Int) n).yld i H x H' → g x σ H' fun σ2 H2 => tb { D with nx := N, ct := N, bk := D.nx } σ2 H2) :=
  for_range (lo := (a : Int)) Pv h0 (fun i σ H hi p => by
    have e : (a : Int) + (i : Int) = ((a + i : Nat) : Int) := by omega
    rw [e]; exact hs i σ H hi p) hd
theorem range_get2 {n i : Nat} (h : i < n) : (List.range n)[i]? = some i := by rw [List.getElem?_eq_getElem (by rw [List.length_range]; exact h), List.getElem_range]
noncomputable def spWithN (K : PySem.W.Frag) : Sp := fun vs H Q _ => ∃ (a : Addr) (r : List Int) (c : Nat) (v : Int), vs = [.ref a, vN c, .int v] ∧ H a = some (.tup (r.map V.int)) ∧ c < r.length ∧ r.length ≤ 7 ∧ ∀ (t : Addr) (H' : Hp), Same H H' → H' t = some (.tup ((r.set c v).map V.int)) → Q (.ref t) H'
theorem small7 {n : Nat} (h : n ≤ 20) : n ≤ sizeLine := Nat.le_of_lt (small1000 (by omega))
noncomputable def evenRow (c : Nat) (a b : Int) (r : List Int) : List Int := if r.getD c 0 = max a b then r.set c (min a b) else r
noncomputable def spMade (K : PySem.W.Frag) : Sp := fun vs H Q _ => ∃ (tl : Addr) (ts : List Addr) (T : Tbl) (m i j c : Nat) (ri rj : List Int), vs = [.ref tl, vN i, vN j, vN c] ∧ SqL K H tl (ts.map V.ref) ∧ TB H m ts T ∧ m ≤ 7 ∧ T.length ≤ 20 ∧ T[i]? = some ri ∧ T[j]? = some rj ∧ c < m ∧
  ∀ (tl' : Addr) (ts' : List Addr) (H' : Hp), Same H H' → H tl' = none → H' tl' = some (.lst (ts'.map V.ref)) → TB H' m ts' (T.map (evenRow c (ri.getD c 0) (rj.getD c 0))) → Q (.ref tl') H'
theorem to_nat {n a : Nat} : ((n : Int) - (a : Int)).toNat = n - a := by omega
end L2

namespace L2
open PySem PySem.Spec PyProof.Rows
/-! ### the filled table as a run -/
noncomputable abbrev Stp := Nat × Nat × Nat × Nat
noncomputable def begRow (m i p : Nat) : List Int := mixL (List.replicate m 0) (List.replicate m ((i + 1 : Nat) : Int)) p
noncomputable def begK (m : Nat) (ps : List Nat) (k : Nat) : Tbl := (List.range k).map fun i => begRow m i (ps.getD i 0)
noncomputable def begT (m : Nat) (ps : List Nat) : Tbl := begK m ps ps.length
theorem begRow_len (m i p : Nat) : (begRow m i p).length = m := by
  unfold begRow mixL
  rw [List.length_map, List.length_range, List.length_replicate]
theorem begRow_get {m i p k : Nat} (hk : k < m) : (begRow m i p).getD k 0 = if hasB p k = true then 0 else ((i + 1 : Nat) : Int) := by
  unfold begRow mixL
  rw [List.getD_eq_getElem?_getD, List.getElem?_map, List.length_replicate, range_get2 hk]
  show (if hasB p k = true then (List.replicate m (0 : Int)).getD k 0 else (List.replicate m ((i + 1 : Nat) : Int)).getD k 0) = _
  have h1 : (List.replicate m (0 : Int)).getD k 0 = 0 := by rw [List.getD_eq_getElem?_getD, List.getElem?_replicate, if_pos hk]; rfl
  have h2 : (List.replicate m ((i + 1 : Nat) : Int)).getD k 0 = ((i + 1 : Nat) : Int) := by rw [List.getD_eq_getElem?_getD, List.getElem?_replicate, if_pos hk]; rfl
  rw [h1, h2]
noncomputable def rsum (r : List Int) : Nat := (r.map Int.toNat).sum
noncomputable def tsum (T : Tbl) : Nat := (T.map rsum).sum
noncomputable def stepT (T : Tbl) (p : Stp) : Tbl := T.map (evenRow p.2.2.2 ((rowT T p.2.1).getD p.2.2.2 0) ((rowT T p.2.2.1).getD p.2.2.2 0))
noncomputable def runT (rs : List RD) : Nat → Tbl → Tbl × List Stp
  | 0, T => (T, [])
  | n + 1, T => match firstS T rs with
    | none => (T, [])
    | some p => ((runT rs n (stepT T p)).1, p :: (runT rs n (stepT T p)).2)
/-- what the first step is -/
structure StepP (T : Tbl) (rs : List RD) (p : Stp) (ri rj : List Int) (x y : Nat) : Prop where
  rule : rs[p.1]? = some (true, x, y)
  ei : T[p.2.1]? = some ri
  ej : T[p.2.2.1]? = some rj
  lt : p.2.1 < p.2.2.1
  al : alikeL ri rj x = true
  un : unlN ri rj y = some p.2.2.2
theorem findSome_mem {α β : Type} {f : α → Option β} : ∀ {l : List α} {b : β}, l.findSome? f = some b → ∃ a ∈ l, f a = some b
  | a :: l, b, h => by
    rw [List.findSome?_cons] at h
    cases e : f a with
    | some c =>
      rw [e] at h
      exact ⟨a, List.mem_cons_self .., by rw [e]; exact h⟩
    | none =>
      rw [e] at h
      obtain ⟨a', h1, h2⟩ := findSome_mem h
      exact ⟨a', List.mem_cons_of_mem _ h1, h2⟩
theorem firstS_some {T : Tbl} {rs : List RD} {p : Stp} (h : firstS T rs = some p) : ∃ ri rj x y, StepP T rs p ri rj x y := by
  obtain ⟨k, hk, h1⟩ := findSome_mem h
  unfold tryS at h1
  split at h1
  · rename_i x y hr
    rw [Option.map_eq_some_iff] at h1
    obtain ⟨q, hq, rfl⟩ := h1
    obtain ⟨i, hi, h2⟩ := findSome_mem hq
    obtain ⟨j, hj, h3⟩ := findSome_mem h2
    unfold tryP at h3
    split at h3
    · rename_i hal
      rw [Option.map_eq_some_iff] at h3
      obtain ⟨c, hc, rfl⟩ := h3
      have hi' := List.mem_range.mp hi
      obtain ⟨t, ht, ej⟩ := List.mem_range'.mp hj
      have hj' : j < T.length := by omega
      have e1 : T[i]? = some T[i] := List.getElem?_eq_getElem hi'
      have e2 : T[j]? = some T[j] := List.getElem?_eq_getElem hj'
      rw [rowT_of e1, rowT_of e2] at hal hc
      exact ⟨T[i], T[j], x, y, hr, e1, e2, by show i < j; omega, hal, hc⟩
    · cases h3
  · cases h1
theorem unlN_some {r1 r2 : List Int} {s c m : Nat} (hs : s < 2 ^ m) (m7 : m ≤ 7) (h : unlN r1 r2 s = some c) : c < m ∧ r1.getD c 0 ≠ r2.getD c 0 := by
  have p7 := pow7 m7
  have h1 := List.mem_of_find?_eq_some h
  have h2 := List.find?_some h
  refine ⟨hasb_lt hs ((cols_mem (by omega) c).mp h1), fun z => ?_⟩
  rw [decide_eq_true z] at h2
  cases h2
theorem rsum_set : ∀ (r : List Int) (c : Nat) (v : Int), c < r.length → rsum (r.set c v) + (r.getD c 0).toNat = rsum r + v.toNat
  | x :: r, 0, v, _ => by
    show ((v :: r).map Int.toNat).sum + _ = ((x :: r).map Int.toNat).sum + _
    rw [List.map_cons, List.map_cons, List.sum_cons, List.sum_cons]
    show v.toNat + _ + x.toNat = x.toNat + _ + v.toNat
    omega
  | x :: r, c + 1, v, h => by
    have := rsum_set r c v (by simpa using h)
    show ((x :: r.set c v).map Int.toNat).sum + (r.getD c 0).toNat = ((x :: r).map Int.toNat).sum + _
    rw [List.map_cons, List.map_cons, List.sum_cons, List.sum_cons]
    have e1 : ((r.set c v).map Int.toNat).sum = rsum (r.set c v) := rfl
    have e2 : (r.map Int.toNat).sum = rsum r := rfl
    rw [e1, e2]
    omega
noncomputable def NonN (T : Tbl) : Prop := ∀ r ∈ T, ∀ v ∈ r, (0 : Int) ≤ v
theorem evenRow_len (c : Nat) (a b : Int) (r : List Int) : (evenRow c a b r).length = r.length := by
  unfold evenRow
  split
  · rw [List.length_set]
  · rfl
theorem evenRow_sum {c : Nat} {a b : Int} {r : List Int} (hc : c < r.length) (h : a ≠ b) (ha : 0 ≤ a) (hb : 0 ≤ b) : rsum (evenRow c a b r) ≤ rsum r ∧ (r.getD c 0 = max a b → rsum (evenRow c a b r) < rsum r) := by
  unfold evenRow
  split
  · rename_i e
    have := rsum_set r c (min a b) hc
    rw [e] at this
    exact ⟨by omega, fun _ => by omega⟩
  · rename_i e
    exact ⟨Nat.le_refl _, fun z => absurd z e⟩
theorem even_tsum {m c : Nat} {a b : Int} (hc : c < m) (h : a ≠ b) (ha : 0 ≤ a) (hb : 0 ≤ b) : ∀ {T : Tbl}, (∀ r ∈ T, r.length = m) → tsum (T.map (evenRow c a b)) ≤ tsum T ∧ ((∃ r ∈ T, r.getD c 0 = max a b) → tsum (T.map (evenRow c a b)) < tsum T)
  | [], _ => ⟨Nat.le_refl _, fun ⟨_, h, _⟩ => absurd h List.not_mem_nil⟩
  | r :: T, hl => by
    obtain ⟨i1, i2⟩ := even_tsum hc h ha hb (T := T) fun r' hr => hl r' (List.mem_cons_of_mem _ hr)
    obtain ⟨e1, e2⟩ := evenRow_sum (r := r) (by rw [hl r (List.mem_cons_self ..)]; exact hc) h ha hb
    have e : ∀ C : Tbl, ∀ x, tsum (x :: C) = rsum x + tsum C := fun C x => by unfold tsum; rw [List.map_cons, List.sum_cons]
    rw [List.map_cons, e, e]
    refine ⟨by omega, ?_⟩
    rintro ⟨r', hr', er⟩
    rcases List.mem_cons.mp hr' with rfl | hr'
    · have := e2 er; omega
    · have := i2 ⟨r', hr', er⟩; omega
theorem evenRow_nonneg {c : Nat} {a b : Int} {r : List Int} (ha : 0 ≤ a) (hb : 0 ≤ b) (h : ∀ v ∈ r, (0 : Int) ≤ v) : ∀ v ∈ evenRow c a b r, (0 : Int) ≤ v := fun v hv => by
  unfold evenRow at hv
  split at hv
  · rcases List.mem_or_eq_of_mem_set hv with hv | rfl
    · exact h v hv
    · omega
  · exact h v hv
noncomputable def Rules (m : Nat) (rs : List RD) : Prop := ∀ r ∈ rs, r.2.1 < 2 ^ m ∧ r.2.2 < 2 ^ m
structure TAt (m : Nat) (rs : List RD) (T0 : Tbl) (ss : List Stp) (T : Tbl) (n : Nat) : Prop where
  nn : NonN T
  rl : ∀ r ∈ T, r.length = m
  ln : T.length = T0.length
  fuel : tsum T ≤ n
  eT : (runT rs n T).1 = (runT rs 1000 T0).1
  eS : ss ++ (runT rs n T).2 = (runT rs 1000 T0).2
  len : ss.length + n ≤ 1000
theorem getD_mem {r : List Int} {c : Nat} (h : c < r.length) : r.getD c 0 ∈ r := by
  rw [List.getD_eq_getElem?_getD, List.getElem?_eq_getElem h]; exact List.getElem_mem h
theorem TAt.next {m n : Nat} {rs : List RD} {T0 T : Tbl} {ss : List Stp} {p : Stp} (m7 : m ≤ 7) (hrs : Rules m rs) (A : TAt m rs T0 ss T n) (h : firstS T rs = some p) :
    (∃ ri rj, T[p.2.1]? = some ri ∧ T[p.2.2.1]? = some rj ∧ p.2.2.2 < m ∧ stepT T p = T.map (evenRow p.2.2.2 (ri.getD p.2.2.2 0) (rj.getD p.2.2.2 0))) ∧ ∃ n', n = n' + 1 ∧ TAt m rs T0 (ss ++ [p]) (stepT T p) n' := by
  obtain ⟨ri, rj, x, y, S⟩ := firstS_some h
  obtain ⟨hc, hne⟩ := unlN_some (hrs _ (List.mem_of_getElem? S.rule)).2 m7 S.un
  have hri := List.mem_of_getElem? S.ei
  have hrj := List.mem_of_getElem? S.ej
  have li := A.rl ri hri
  have lj := A.rl rj hrj
  have ha := A.nn ri hri _ (getD_mem (c := p.2.2.2) (by omega))
  have hb := A.nn rj hrj _ (getD_mem (c := p.2.2.2) (by omega))
  have es : stepT T p = T.map (evenRow p.2.2.2 (ri.getD p.2.2.2 0) (rj.getD p.2.2.2 0)) := by unfold stepT; rw [rowT_of S.ei, rowT_of S.ej]
  refine ⟨⟨ri, rj, S.ei, S.ej, hc, es⟩, ?_⟩
  have dec : tsum (stepT T p) < tsum T := by
    rw [es]
    refine (even_tsum hc hne ha hb A.rl).2 ?_
    by_cases z : ri.getD p.2.2.2 0 < rj.getD p.2.2.2 0
    · exact ⟨rj, hrj, by omega⟩
    · exact ⟨ri, hri, by omega⟩
  have hf := A.fuel
  cases n with
  | zero => omega
  | succ n =>
    have e1 := A.eT
    have e2 := A.eS
    unfold runT at e1 e2
    rw [h] at e1 e2
    have hl := A.len
    refine ⟨n, rfl, ?_, ?_, ?_, by omega, e1, by rw [List.append_assoc]; exact e2, by rw [List.length_append]; show ss.length + 1 + n ≤ 1000; omega⟩
    · rw [es]
      intro r hr
      obtain ⟨r0, h0, rfl⟩ := List.mem_map.mp hr
      exact evenRow_nonneg ha hb (A.nn r0 h0)
    · rw [es]
      intro r hr
      obtain ⟨r0, h0, rfl⟩ := List.mem_map.mp hr
      rw [evenRow_len]; exact A.rl r0 h0
    · rw [es, List.length_map]; exact A.ln
theorem TAt.done {m n : Nat} {rs : List RD} {T0 T : Tbl} {ss : List Stp} (A : TAt m rs T0 ss T n) (h : firstS T rs = none) : T = (runT rs 1000 T0).1 ∧ ss = (runT rs 1000 T0).2 := by
  have e1 := A.eT
  have e2 := A.eS
  cases n with
  | zero =>
    unfold runT at e1 e2
    rw [List.append_nil] at e2
    exact ⟨e1, e2⟩
  | succ n =>
    unfold runT at e1 e2
    rw [h] at e1 e2
    rw [List.append_nil] at e2
    exact ⟨e1, e2⟩
noncomputable abbrev SW4 := Addr × Stp
noncomputable def Steps4 (H : Hp) (sw : List SW4) : Prop := ∀ w ∈ sw, H w.1 = some (.tup [vN w.2.1, vN w.2.2.1, vN w.2.2.2.1, vN w.2.2.2.2])
theorem Steps4.same {H H' : Hp} {sw : List SW4} (h : Steps4 H sw) (e : Same H H') : Steps4 H' sw := fun w hw => e _ _ (h w hw)
theorem Steps4.put {H : Hp} {sw : List SW4} {q : Addr} {xs ys : List V} (h : Steps4 H sw) (hq : H q = some (.lst xs)) : Steps4 (upd H q (.lst ys)) sw := fun w hw => by
  rw [upd_ne (ne_of (h w hw) hq (by intro z; cases z))]; exact h w hw
theorem Steps4.snoc {H : Hp} {sw : List SW4} {w : SW4} (h : Steps4 H sw) (hw : H w.1 = some (.tup [vN w.2.1, vN w.2.2.1, vN w.2.2.2.1, vN w.2.2.2.2])) : Steps4 H (sw ++ [w]) := fun v hv => by
  rcases List.mem_append.mp hv with hv | hv
  · exact h v hv
  · rw [List.mem_singleton.mp hv]; exact hw
theorem TB.putL {H : Hp} {m : Nat} {ts : List Addr} {T : Tbl} {q : Addr} {xs ys : List V} (h : TB H m ts T) (hq : H q = some (.lst xs)) : TB (upd H q (.lst ys)) m ts T :=
  ⟨h.len, fun i t r h1 h2 => by
    have := h.at_ i t r h1 h2
    rw [upd_ne (ne_of this hq (by intro z; cases z))]; exact this, h.rl⟩
noncomputable def spCheck (K : PySem.W.Frag) : Sp := fun vs H Q _ => ∃ (m : Nat) (pl : Addr) (ps : List Nat), vs = [vN m, .ref pl] ∧ m ≤ 7 ∧ SqL K H pl (ps.map vN) ∧ ps.length ≤ 10 ∧ ps.foldl (· ||| ·) 0 = 2 ^ m - 1 ∧ ∀ H', Same H H' → Q .non H'
noncomputable def spBegunT (K : PySem.W.Frag) : Sp := fun vs H Q _ => ∃ (m : Nat) (pl : Addr) (ps : List Nat), vs = [vN m, .ref pl] ∧ 1 ≤ m ∧ m ≤ 7 ∧ SqL K H pl (ps.map vN) ∧ ps.length ≤ 10 ∧ ∀ (tl : Addr) (ts : List Addr) (H' : Hp), Same H H' → H tl = none → H' tl = some (.lst (ts.map V.ref)) → TB H' m ts (begT m ps) → Q (.ref tl) H'
noncomputable def spFilled (K : PySem.W.Frag) : Sp := fun vs H Q _ => ∃ (m : Nat) (rl pl : Addr) (rs : List Rl) (ps : List Nat), vs = [vN m, .ref rl, .ref pl] ∧ 1 ≤ m ∧ m ≤ 7 ∧ SqL K H rl (rs.map fun r => V.ref r.r) ∧ RulesAt H m rs ∧ rs.length ≤ 200 ∧ SqL K H pl (ps.map vN) ∧ ps.length ≤ 10 ∧ ps.foldl (· ||| ·) 0 = 2 ^ m - 1 ∧
  ∀ (t tl sl : Addr) (ts : List Addr) (sw : List SW4) (H' : Hp), Same H H' → H' t = some (.tup [.ref tl, .ref sl]) → H tl = none → H' tl = some (.lst (ts.map V.ref)) → TB H' m ts (runT (rs.map Rl.d) 1000 (begT m ps)).1 → H sl = none → H' sl = some (.lst (sw.map fun w => V.ref w.1)) → Steps4 H' sw → sw.map (·.2) = (runT (rs.map Rl.d) 1000 (begT m ps)).2 → sw.length ≤ 1000 → tl ≠ sl → Q (.ref t) H'
/-- the loop of filling under way -/
noncomputable def FInv (H : Hp) (m : Nat) (rl pl : Addr) (rs : List Rl) (ps : List Nat) (n : Nat) (σ : St) (H' : Hp) : Prop :=
  ∃ (T : Tbl) (ts : List Addr) (tl sl : Addr) (sw : List SW4) (v : V), σ = [some (vN m), some (.ref rl), some (.ref pl), some (.ref tl), some (.ref sl), some v] ∧ TAt m (rs.map Rl.d) (begT m ps) (sw.map (·.2)) T n ∧ Same H H' ∧ H tl = none ∧ H' tl = some (.lst (ts.map V.ref)) ∧ TB H' m ts T ∧ H sl = none ∧ tl ≠ sl ∧ H' sl = some (.lst (sw.map fun w => V.ref w.1)) ∧ Steps4 H' sw ∧
    ((firstS T (rs.map Rl.d) = none ∧ v = .non) ∨ ∃ p t, firstS T (rs.map Rl.d) = some p ∧ v = .ref t ∧ H' t = some (.tup [vN p.1, vN p.2.1, vN p.2.2.1, vN p.2.2.2]))
theorem sum_le {k : Nat} : ∀ {l : List Nat}, (∀ x ∈ l, x ≤ k) → l.sum ≤ k * l.length
  | [], _ => Nat.zero_le _
  | x :: l, h => by
    have h1 := sum_le (l := l) fun y hy => h y (List.mem_cons_of_mem _ hy)
    have h2 := h x (List.mem_cons_self ..)
    rw [List.sum_cons, List.length_cons, Nat.mul_succ]
    omega
theorem beg_entry {m i p : Nat} {v : Int} (hv : v ∈ begRow m i p) : v = 0 ∨ v = ((i + 1 : Nat) : Int) := by
  obtain ⟨k, hk, e⟩ := List.getElem_of_mem hv
  have hk' : k < m := by rw [begRow_len] at hk; exact hk
  have h0 := begRow_get (m := m) (i := i) (p := p) hk'
  rw [List.getD_eq_getElem?_getD, List.getElem?_eq_getElem hk, e] at h0
  have h1 : v = if hasB p k = true then 0 else ((i + 1 : Nat) : Int) := h0
  split at h1
  · exact .inl h1
  · exact .inr h1
theorem begT_at {m : Nat} {rs : List RD} {ps : List Nat} (lp : ps.length ≤ 10) (m7 : m ≤ 7) : TAt m rs (begT m ps) [] (begT m ps) 1000 := by
  have nn : NonN (begT m ps) := fun r hr v hv => by
    obtain ⟨i, _, rfl⟩ := List.mem_map.mp hr
    rcases beg_entry hv with h | h <;> omega
  refine ⟨nn, fun r hr => ?_, rfl, ?_, rfl, rfl, Nat.le_refl _⟩
  · obtain ⟨i, _, rfl⟩ := List.mem_map.mp hr
    exact begRow_len ..
  · have h1 : ∀ x ∈ (begT m ps).map rsum, x ≤ 70 := fun x hx => by
      obtain ⟨r, hr, rfl⟩ := List.mem_map.mp hx
      obtain ⟨i, hi, rfl⟩ := List.mem_map.mp hr
      have hi' := List.mem_range.mp hi
      have h2 : ∀ y ∈ (begRow m i (ps.getD i 0)).map Int.toNat, y ≤ 10 := fun y hy => by
        obtain ⟨v, hv, rfl⟩ := List.mem_map.mp hy
        rcases beg_entry hv with h | h <;> omega
      have h3 := sum_le h2
      rw [List.length_map, begRow_len] at h3
      show ((begRow m i (ps.getD i 0)).map Int.toNat).sum ≤ 70
      omega
    have h4 := sum_le h1
    have h5 : ((begT m ps).map rsum).length = ps.length := by unfold begT begK; rw [List.length_map, List.length_map, List.length_range]
    rw [h5] at h4
    show ((begT m ps).map rsum).sum ≤ 1000
    omega
end L2

namespace L2
open PySem PySem.Spec PyProof.Rows
section
variable {X : Cx} {K : PySem.W.Frag} {pins : List (Addr × Obj)} {σ : St} {H : Hp} {s : Shared}
theorem op_inTT (h : X.K = K) (hu : X.A.units + 64 < cLine) : OpR X (compareOp .In) (fun x y H Q => ∃ (t l : Addr) (ns : List Int) (rws : List RW), x = .ref t ∧ y = .ref l ∧ H t = some (.tup (ns.map V.int)) ∧ SqL K H l (refsOf rws) ∧ (∀ rw0 ∈ rws, H rw0.1 = some (.tup (rw0.2.map V.int))) ∧
    ∀ b : Bool, (b = true ↔ ∃ c ∈ rws, c.2 = ns) → Q (.bl b) H) := by
  subst h
  intro pins s σ H x y v u Q I rx ry h
  obtain ⟨t, l, ns, rws, rfl, rfl, ht, hl, hr, q⟩ := h
  cases rx; cases ry
  obtain ⟨its, rv, pl, hz⟩ := I.list hl
  have eits : its = rws.map fun rw0 => Value.ref rw0.1 := by
    have : Vals ((rws.map (·.1)).map V.ref) its := by rw [List.map_map]; exact rv
    rw [vals_refs this, List.map_map]
    rfl
  have content : ∀ a ∈ rws, ∀ b ∈ rws, a.1 = b.1 → a.2 = b.2 := fun a ha b hb e => by
    have h1 := hr a ha
    rw [e, hr b hb] at h1
    exact (map_int_inj (HO.tup.inj (Option.some.inj h1))).symm
  refine SeqAt.in_listAt (fun v => rws.any fun rw0 => decide (v = Value.ref rw0.1) && decide (rw0.2 = ns)) pl.isList (fun w hw => ?_) ?_
  · have hw' : w ∈ rws.map fun rw0 => Value.ref rw0.1 := by rw [← eits]; simpa using hw
    obtain ⟨a, ha, rfl⟩ := List.mem_map.mp hw'
    have e1 : (rws.any fun rw0 => decide (Value.ref a.1 = Value.ref rw0.1) && decide (rw0.2 = ns)) = decide (a.2 = ns) := by
      rw [Bool.eq_iff_iff, List.any_eq_true, decide_eq_true_iff]
      constructor
      · rintro ⟨b, hb, e⟩
        rw [Bool.and_eq_true] at e
        have eab : a.1 = b.1 := Value.ref.inj (of_decide_eq_true e.1)
        rw [content a ha b hb eab]
        exact of_decide_eq_true e.2
      · intro e
        exact ⟨a, ha, by rw [decide_eq_true rfl, decide_eq_true e]; rfl⟩
    show SeqAt.EqAt X.A.in1 s (Value.ref a.1) (Value.ref t) (rws.any fun rw0 => decide (Value.ref a.1 = Value.ref rw0.1) && decide (rw0.2 = ns))
    rw [e1]
    exact eqAt_tups (show X.A.units + 1 < cLine by omega) I (hr a ha) ht
  · refine ⟨.bl _, H, I, rfl, q _ ?_⟩
    rw [eits, List.any_toArray, List.any_eq_true]
    constructor
    · rintro ⟨v, _, hv⟩
      obtain ⟨c, hc, hcc⟩ := List.any_eq_true.mp hv
      rw [Bool.and_eq_true] at hcc
      exact ⟨c, hc, of_decide_eq_true hcc.2⟩
    · rintro ⟨c, hc, ec⟩
      exact ⟨Value.ref c.1, List.mem_map.mpr ⟨c, hc, rfl⟩, List.any_eq_true.mpr ⟨c, hc, by rw [decide_eq_true rfl, decide_eq_true ec]; rfl⟩⟩
end
theorem zip_refs : ∀ {ts : List Addr} {T : Tbl}, ts.length = T.length → refsOf (ts.zip T) = ts.map V.ref
  | [], [], _ => rfl
  | [], _ :: _, e => by cases e
  | _ :: _, [], e => by cases e
  | t :: ts, r :: T, e => by
    show V.ref t :: refsOf (ts.zip T) = V.ref t :: ts.map V.ref
    rw [zip_refs (by simpa using e)]
theorem TB.zip {H : Hp} {m : Nat} {ts : List Addr} {T : Tbl} (h : TB H m ts T) : (∀ w ∈ ts.zip T, H w.1 = some (.tup (w.2.map V.int))) ∧ ∀ ns, (∃ c ∈ ts.zip T, c.2 = ns) ↔ ns ∈ T := by
  constructor
  · intro w hw
    obtain ⟨i, hi⟩ := List.getElem?_of_mem hw
    rw [List.getElem?_zip_eq_some] at hi
    exact h.at_ i w.1 w.2 hi.1 hi.2
  · intro ns
    constructor
    · rintro ⟨c, hc, rfl⟩
      exact (List.of_mem_zip hc).2
    · intro hn
      obtain ⟨i, hi⟩ := List.getElem?_of_mem hn
      have hl : i < ts.length := by rw [h.len]; exact (List.getElem?_eq_some_iff.mp hi).1
      refine ⟨(ts[i], ns), List.mem_of_getElem? (i := i) ?_, rfl⟩
      rw [List.getElem?_zip_eq_some]
      exact ⟨List.getElem?_eq_getElem hl, hi⟩
noncomputable def spSafe (K : PySem.W.Frag) : Sp := fun vs H Q _ => ∃ (m : Nat) (rl pl : Addr) (rs : List Rl) (ps : List Nat), vs = [vN m, .ref rl, .ref pl] ∧ 1 ≤ m ∧ m ≤ 7 ∧ SqL K H rl (rs.map fun r => V.ref r.r) ∧ RulesAt H m rs ∧ rs.length ≤ 200 ∧ SqL K H pl (ps.map vN) ∧ ps.length ≤ 10 ∧ ps.foldl (· ||| ·) 0 = 2 ^ m - 1 ∧
  ∀ (b : Bool) (H' : Hp), Same H H' → (b = true ↔ List.replicate m 0 ∈ (runT (rs.map Rl.d) 1000 (begT m ps)).1) → Q (.bl b) H'
/-! parts with all columns among them -/
theorem or_bits (k : Nat) : ∀ (l : List Nat) (a : Nat), HasB (l.foldl (· ||| ·) a) k ↔ HasB a k ∨ ∃ p ∈ l, HasB p k
  | [], a => ⟨.inl, fun h => h.elim id fun ⟨_, h, _⟩ => absurd h List.not_mem_nil⟩
  | x :: l, a => by
    rw [List.foldl_cons, or_bits k l (a ||| x), hasb_or]
    constructor
    · rintro ((h | h) | ⟨p, hp, h⟩)
      · exact .inl h
      · exact .inr ⟨x, List.mem_cons_self .., h⟩
      · exact .inr ⟨p, List.mem_cons_of_mem _ hp, h⟩
    · rintro (h | ⟨p, hp, h⟩)
      · exact .inl (.inl h)
      · rcases List.mem_cons.mp hp with rfl | hp
        · exact .inl (.inr h)
        · exact .inr ⟨p, hp, h⟩
theorem or_lt {m : Nat} {l : List Nat} (h : ∀ p ∈ l, p < 2 ^ m) : l.foldl (· ||| ·) 0 < 2 ^ m := by
  refine Nat.lt_pow_two_of_testBit _ fun k hk => ?_
  cases e : (l.foldl (· ||| ·) 0).testBit k with
  | false => rfl
  | true =>
    rcases (or_bits k l 0).mp e with h0 | ⟨p, hp, hb⟩
    · unfold HasB at h0
      rw [Nat.zero_testBit] at h0; cases h0
    · have := hasb_lt (h p hp) hb
      omega
theorem parts_full {m a p : Nat} {l : List Nat} (h : ∀ p ∈ l, p < 2 ^ m) (ep : l[a]? = some p) : (∀ q ∈ l.set a (p ||| (2 ^ m - 1 - l.foldl (· ||| ·) 0)), q < 2 ^ m) ∧ (l.set a (p ||| (2 ^ m - 1 - l.foldl (· ||| ·) 0))).foldl (· ||| ·) 0 = 2 ^ m - 1 := by
  have pw : 0 < 2 ^ m := Nat.two_pow_pos m
  have hj := or_lt h
  have hpl := h p (List.mem_of_getElem? ep)
  have hnew : p ||| (2 ^ m - 1 - l.foldl (· ||| ·) 0) < 2 ^ m := Nat.or_lt_two_pow hpl (by omega)
  have hall : ∀ q ∈ l.set a (p ||| (2 ^ m - 1 - l.foldl (· ||| ·) 0)), q < 2 ^ m := fun q hq => by
    rcases List.mem_or_eq_of_mem_set hq with hq | rfl
    · exact h q hq
    · exact hnew
  refine ⟨hall, bits_eq fun k => ?_⟩
  have ha : a < l.length := (List.getElem?_eq_some_iff.mp ep).1
  have hin : p ||| (2 ^ m - 1 - l.foldl (· ||| ·) 0) ∈ l.set a (p ||| (2 ^ m - 1 - l.foldl (· ||| ·) 0)) := List.mem_of_getElem? (i := a) (List.getElem?_set_self ha)
  rw [or_bits, hasb_all]
  constructor
  · rintro (h0 | ⟨q, hq, hb⟩)
    · unfold HasB at h0
      rw [Nat.zero_testBit] at h0; cases h0
    · exact hasb_lt (hall q hq) hb
  · intro hk
    refine .inr ?_
    by_cases hjk : HasB (l.foldl (· ||| ·) 0) k
    · rcases (or_bits k l 0).mp hjk with h0 | ⟨q, hq, hb⟩
      · unfold HasB at h0
        rw [Nat.zero_testBit] at h0; cases h0
      · obtain ⟨i, hi⟩ := List.getElem?_of_mem hq
        by_cases e : i = a
        · subst e
          rw [ep] at hi
          rw [← Option.some.inj hi] at hb
          exact ⟨_, hin, (hasb_or _ _ _).mpr (.inl hb)⟩
        · exact ⟨q, List.mem_of_getElem? (i := i) (by rw [List.getElem?_set_ne (Ne.symm e)]; exact hi), hb⟩
    · exact ⟨_, hin, (hasb_or _ _ _).mpr (.inr ((hasb_full hj k).mpr ⟨hk, hjk⟩))⟩
noncomputable def spParts53 (K : PySem.W.Frag) : Sp := fun vs H Q _ => ∃ (st : Addr) (ns : List Int) (k m mo : Nat), vs = [.ref st, vN m, vN mo] ∧ STF K H st ns k ∧ k ≤ 1000 ∧ ns.length ≤ 63 ∧ 1 ≤ m ∧ m ≤ 7 ∧ 1 ≤ mo ∧ mo ≤ 10 ∧
  ∀ (ps : List Nat) (p : Addr) (k' : Nat) (H' : Hp), (∀ q ∈ ps, q < 2 ^ m) → 1 ≤ ps.length → ps.length ≤ 10 → ps.foldl (· ||| ·) 0 = 2 ^ m - 1 → k' ≤ k + 100 → STF K H' st ns k' → But st H H' → H p = none → p ≠ st → H' p = some (.lst (ps.map vN)) → Q (.ref p) H'
end L2

namespace L2
open PySem PySem.Spec PyProof.Rows
end L2

namespace L2
open PySem PySem.Spec PyProof.Rows
/-! ### tables as data; k53 -/
noncomputable def dPair (rs : List RD) (ms : List Int) : PyData := .tuple [.list (rs.map dR), .list (ms.map PyData.int)]
theorem pair_eq (rs : List RD) (ms : List Int) : same (dPair rs ms) (dPair rs ms) = true ∧ SeqAt.noMix (dPair rs ms) (dPair rs ms) = true ∧ SeqAt.shaped (dPair rs ms) = true := by
  have h1 : sameAll (rs.map dR) (rs.map dR) = true := by rw [sameAll_map same_dR]; exact decide_eq_true rfl
  have h2 : sameAll (ms.map PyData.int) (ms.map PyData.int) = true := by rw [sameAll_map sameI]; exact decide_eq_true rfl
  have n1 : SeqAt.noMixAll (rs.map dR) (rs.map dR) = true := noMixAll_map noMix_dR _ _
  have n2 : SeqAt.noMixAll (ms.map PyData.int) (ms.map PyData.int) = true := noMixAll_map (fun a b => by simp [SeqAt.noMix]) _ _
  have c1 : PyData.canLayAll0 (rs.map dR) = true := canLayAll_map canLay_dR _
  have c2 : PyData.canLayAll0 (ms.map PyData.int) = true := canLayAll_map (fun a => by simp [PyData.canLay0]) _
  have d1 : PyData.depthAll (rs.map dR) ≤ 10 := depthAll_map depth_dR _
  have d2 : PyData.depthAll (ms.map PyData.int) ≤ 10 := depthAll_map (fun a => by simp [PyData.depth]) _
  unfold dPair
  refine ⟨?_, ?_, ?_⟩
  · simp only [same, sameAll, h1, h2]
    simp
  · simp only [SeqAt.noMix, SeqAt.noMixAll, n1, n2]
    simp
  · show (PyData.canLay0 _ && decide (PyData.depth _ ≤ 64)) = true
    rw [Bool.and_eq_true]
    refine ⟨?_, decide_eq_true ?_⟩
    · simp only [PyData.canLay0, PyData.canLayAll0, c1, c2]
      decide +kernel
    · simp only [PyData.depth, PyData.depthAll]
      omega
theorem pair_dv {K : PySem.W.Frag} {H : Hp} {m : Nat} {t a b : Addr} {rs : List Rl} {ps : List Nat} (ht : H t = some (.tup [.ref a, .ref b])) (ha : H a = some (.lst (rs.map fun r => V.ref r.r))) (hR : RulesAt H m rs) (hb : H b = some (.lst (ps.map vN))) : DV K H (.ref t) (dPair (rs.map Rl.d) (ps.map fun (k : Nat) => (k : Int))) :=
  .tup (SqT.of ht) (.cons (.lst (SqL.of ha) (rules_dv hR)) (.cons (.lst (SqL.of (by rw [map_int]; exact hb)) (ints_dv _)) .nil))
section
variable {X : Cx} {K : PySem.W.Frag}
end
end L2

namespace L2
open PySem PySem.Spec PyProof.Rows
/-! ### rows as lists that are filled in their place (k54) -/
end L2

namespace L2
open PySem PySem.Spec PyProof.Rows
/-! ### k51: what is refused -/
theorem AskOk.imp {P : Program} {w : World} {K : PySem.W.Frag} {mg : Str → Option Value} {base : Heap} {k : Nat} {outer1 : List Env} {s1 : Shared} {f : Addr} {H : Hp} {Q Q' : VK} {E E' : XK} (a : AskOk P w K mg base k outer1 s1 f H Q E) (hQ : ∀ v H', Q v H' → Q' v H') (hE : ∀ c H', E c none H' → E' c none H') :
    AskOk P w K mg base k outer1 s1 f H Q' E' := ⟨a.1, fun A outer s hr e0 k => codeAny_mono (a.2 A outer s hr e0 k) fun r s' h => by
  cases r with
  | error e =>
    obtain ⟨ea, C, B, H', rfl, F, z⟩ := h
    exact ⟨ea, C, B, H', rfl, F, hE _ _ z⟩
  | ok fl =>
    cases fl with
    | next => exact False.elim h
    | brk => exact False.elim h
    | cont => exact False.elim h
    | ret u =>
      obtain ⟨v, H', h1, h2, h3, h4, h5, h6⟩ := h
      exact ⟨v, H', h1, h2, h3, h4, h5, hQ _ _ h6⟩⟩
noncomputable def word51 : Nat → Str
  | 0 => "none"
  | 1 => "cut"
  | _ => "many"
noncomputable def ask51 (P : Program) (w : World) (K : PySem.W.Frag) (mg : Str → Option Value) (base : Heap) (CCN CTM : Addr) (outer : List Env) (s : Shared) (f : Addr) (H : Hp) (b : Nat) : Prop :=
  b ≤ 2 ∧ AskOk P w K mg base 20 outer s f H (fun _ H' => b = 0 ∧ Same H H') (fun C _ H' => Same H H' ∧ ((b = 1 ∧ C = .ref CCN) ∨ (b = 2 ∧ C = .ref CTM)))
noncomputable def spHeard (P : Program) (w : World) (K : PySem.W.Frag) (mg : Str → Option Value) (base : Heap) (CCN CTM : Addr) : SpS := fun outer s vs H Q _ => ∃ (f : Addr) (b : Nat), vs = [.ref f] ∧ ask51 P w K mg base CCN CTM outer s f H b ∧ ∀ H', Same H H' → Q (.str (word51 b)) H'
/-- the parts are refused, or not -/
noncomputable def BadP (m : Nat) (ps : List Nat) (b : Nat) : Prop := (b = 2 ∧ 10 < ps.length) ∨ (b = 1 ∧ ps.length ≤ 10 ∧ ps.foldl (· ||| ·) 0 < 2 ^ m - 1)
noncomputable def spCheckX (K : PySem.W.Frag) (CCN CTM : Addr) : Sp := fun vs H _ E => ∃ (m b : Nat) (pl : Addr) (ps : List Nat), vs = [vN m, .ref pl] ∧ m ≤ 7 ∧ SqL K H pl (ps.map vN) ∧ ps.length ≤ 100 ∧ BadP m ps b ∧ E (.ref (if b = 1 then CCN else CTM)) none H
noncomputable def spFilledX (K : PySem.W.Frag) (CCN CTM : Addr) : Sp := fun vs H _ E => ∃ (m b : Nat) (rl pl : Addr) (ps : List Nat), vs = [vN m, .ref rl, .ref pl] ∧ m ≤ 7 ∧ SqL K H pl (ps.map vN) ∧ ps.length ≤ 100 ∧ BadP m ps b ∧ E (.ref (if b = 1 then CCN else CTM)) none H
noncomputable def spSafeX (K : PySem.W.Frag) (CCN CTM : Addr) : Sp := fun vs H _ E => ∃ (m b : Nat) (rl pl : Addr) (ps : List Nat), vs = [vN m, .ref rl, .ref pl] ∧ 1 ≤ m ∧ m ≤ 7 ∧ SqL K H pl (ps.map vN) ∧ ps.length ≤ 100 ∧ BadP m ps b ∧ ∀ H', Same H H' → E (.ref (if b = 1 then CCN else CTM)) none H'
noncomputable def spCutX (CCN : Addr) : Sp := fun vs H _ E => ∃ (m x y : Nat) (rl : Addr), vs = [vN m, .ref rl, vN x, vN y] ∧ m ≤ 7 ∧ x ||| y < 2 ^ m - 1 ∧ E (.ref CCN) none H
theorem pss_dead {X : Cx} {st : List Stmt} : PSs X st (fun _ _ _ => False) := fun _ _ _ _ _ _ h => h.elim
theorem PS.nox {X : Cx} {st : Stmt} {t : TS} (h : PS X.nox st t) : PS X st t := fun pins s σ H D I hw => wpAny_mono (h pins s σ H D (I.wish _) hw) (fun _ _ q => q.unwish) fun _ _ z => z.elim
theorem not_full {m x : Nat} (h : x < 2 ^ m - 1) : ¬ (2 ^ m - 1) &&& x = 2 ^ m - 1 := fun z => by
  have := Nat.and_le_right (n := 2 ^ m - 1) (m := x)
  omega
noncomputable def qP : Str := ("_law_parted" ++ ".<locals>.") ++ "<lambda>"
noncomputable def qL : Str := ("law" ++ ".<locals>.") ++ "<lambda>"
/-- what the parts must be like for each answer -/
noncomputable def PartsAre (m : Nat) (ps : List Nat) (b : Nat) : Prop := BadP m ps b ∨ (b = 0 ∧ 1 ≤ ps.length ∧ ps.length ≤ 10 ∧ ps.foldl (· ||| ·) 0 = 2 ^ m - 1)
noncomputable def spParted (K : PySem.W.Frag) (PT : Addr) : Sp := fun vs H Q _ => ∃ (m b : Nat) (rl pl : Addr) (rs : List Rl) (ps : List Nat), vs = [vN m, .ref rl, .ref pl, .str (word51 b)] ∧ 1 ≤ m ∧ m ≤ 7 ∧ b ≤ 2 ∧ H rl = some (.lst (rs.map fun r => V.ref r.r)) ∧ RulesAt H m rs ∧ rs.length ≤ 12 ∧ H pl = some (.lst (ps.map vN)) ∧ ps.length ≤ 100 ∧ (∀ p ∈ ps, p < 2 ^ m) ∧ PartsAre m ps b ∧ TabAt PT qP H ∧
  ∀ H', But PT H H' → TabAt PT qP H' → Q (.bl true) H'
end L2

namespace Own
open PySem L2
noncomputable def top (i : Nat) : Stmt := PySem.Challenge.pw_splithouse_k51_cuts_refused.main.body.getD i (.Pass ⟨0, 0, 0, 0⟩)
section
variable {P : Program} {w : World} {K : PySem.W.Frag} {mg : Str → Option Value} {base : Heap}
seal PySem.wpAny
noncomputable abbrev sHeard : Stmt := top 42
theorem scHeard : FnScope ["_law_ask", "_law_caught", "e", "_law_some"] ["_law_ask"] (defScope sHeard) := ⟨rfl, rfl, rfl, by decide +kernel, rfl, by decide +kernel, by decide +kernel⟩
theorem ok_heard {f : Addr} {fd : FuncData} (F : Fun K "_law_heard" "_law_heard" sHeard f fd) {CCN : Addr} (mCN : mg "NoCut" = some (.ref CCN)) {CTM : Addr} (mTM : mg "TooMany" = some (.ref CTM)) {CRW : Addr} (mRW : mg "NoRow" = some (.ref CRW)) {CST : Addr} (mST : mg "NoSet" = some (.ref CST)) {CTX : Addr} (mTX : mg "NoText" = some (.ref CTX)) {CZE : Addr} (mZE : mg "SplitError" = some (.ref CZE)) (iCN : ExcI K CCN) (xCN : PySem.W.exmOne K (.ref CCN) (.ref CZE) = some true) (vCN : PySem.W.kitOne K (.ref CCN) (.type "ValueError") = some true) (oCNCN : PySem.W.kitOne K (.ref CCN) (.ref CCN) = some true) (oCNTM : PySem.W.kitOne K (.ref CCN) (.ref CTM) = some false) (oCNRW : PySem.W.kitOne K (.ref CCN) (.ref CRW) = some false) (oCNST : PySem.W.kitOne K (.ref CCN) (.ref CST) = some false) (oCNTX : PySem.W.kitOne K (.ref CCN) (.ref CTX) = some false) (iTM : ExcI K CTM) (xTM : PySem.W.exmOne K (.ref CTM) (.ref CZE) = some true) (vTM : PySem.W.kitOne K (.ref CTM) (.type "ValueError") = some true) (oTMCN : PySem.W.kitOne K (.ref CTM) (.ref CCN) = some false) (oTMTM : PySem.W.kitOne K (.ref CTM) (.ref CTM) = some true) (oTMRW : PySem.W.kitOne K (.ref CTM) (.ref CRW) = some false) (oTMST : PySem.W.kitOne K (.ref CTM) (.ref CST) = some false) (oTMTX : PySem.W.kitOne K (.ref CTM) (.ref CTX) = some false) (zisinstance : mg "isinstance" = none) (ztuple : mg "tuple" = none) (zVE : mg "ValueError" = none) : FnAt P w K mg base CX0 21 f fd ["_law_ask"] (spHeard P w K mg base CCN CTM) := by
  refine F.okS scHeard (fun outer s vs H Q E h => ?_) (fun cdv A outer s H vs Q E hr h => ?_)
  · obtain ⟨g, b, rfl, _⟩ := h
    rfl
  · obtain ⟨g, b, rfl, ⟨b2, ask⟩, q⟩ := h
    have nd := scHeard.nd
    have hu1 := hu_of hr
    have hu0 := hr.units0
    refine ⟨_, (pss_cons (ps_set (i := 1) nd rfl (Or.inl rfl) pe_non)
      (pss_cons (ps_tryAs (j := 1) (l := 2) (pt_ask (k := 20) (i := 0) hr rfl rfl (Or.inl rfl)) (by rfl) mZE rfl rfl rfl nd rfl rfl rfl (Or.inl rfl))
      (pss_cons (ps_if (pt_cmpR op_isN (pv 1) pe_non (nomark _)) (pss_one (ps_ret pe_str)) pss_nil)
      (pss_cons (ps_set (i := 3) nd rfl (Or.inl rfl) (pe_lst (pa_cons (pe_callB (call_isE (K := K) rfl) (by rfl) zisinstance PyProof.Rows.boot_isinstance (pa_cons (pv 1) (pa_cons (pe_glob (v := .ref CCN) (by rfl) mCN rfl) pa_nil))) (pa_cons (pe_callB (call_isE (K := K) rfl) (by rfl) zisinstance PyProof.Rows.boot_isinstance (pa_cons (pv 1) (pa_cons (pe_glob (v := .ref CTM) (by rfl) mTM rfl) pa_nil))) (pa_cons (pe_callB (call_isE (K := K) rfl) (by rfl) zisinstance PyProof.Rows.boot_isinstance (pa_cons (pv 1) (pa_cons (pe_bltn (v := .ty "ValueError") (by rfl) zVE PyProof.Rows.Boot.«ValueError» rfl) pa_nil))) pa_nil)))))
      (pss_cons (ps_if (PW.pt (pw_or (pt_val (pe_callB (call_isE (K := K) rfl) (by rfl) zisinstance PyProof.Rows.boot_isinstance (pa_cons (pv 1) (pa_cons (pe_glob (v := .ref CRW) (by rfl) mRW rfl) pa_nil)))) (pw_or (pt_val (pe_callB (call_isE (K := K) rfl) (by rfl) zisinstance PyProof.Rows.boot_isinstance (pa_cons (pv 1) (pa_cons (pe_glob (v := .ref CST) (by rfl) mST rfl) pa_nil)))) (pw_or1 (pt_val (pe_callB (call_isE (K := K) rfl) (by rfl) zisinstance PyProof.Rows.boot_isinstance (pa_cons (pv 1) (pa_cons (pe_glob (v := .ref CTX) (by rfl) mTX rfl) pa_nil)))))))) (pss_one (ps_ret pe_str)) pss_nil)
      (pss_one (ps_ret (pe_dgetB (P := P) (w := w) rfl rfl hu1 (pe_dispB (P := P) (w := w) rfl rfl hu0 (pps_cons (pe_tup (pa_cons pe_bl (pa_cons pe_bl (pa_cons pe_bl pa_nil)))) pe_str (pps_cons (pe_tup (pa_cons pe_bl (pa_cons pe_bl (pa_cons pe_bl pa_nil)))) pe_str pps_nil)) rfl rfl (by intro z; cases z) (by decide)) (pe_callTy (call_tupleK (K := K) rfl) (by rfl) ztuple PyProof.Rows.boot_tuple (pa_cons (pv 3) pa_nil)) pe_str ⟨rfl, rfl, rfl, rfl⟩)))))))), ?_⟩
    refine ⟨g, rfl, rfl, ask.imp (fun v H1 h1 => ?_) (fun c H1 h1 => ?_)⟩
    · obtain ⟨rfl, s1⟩ := h1
      refine ⟨_, rfl, rfl, _, rfl, iteT ?_⟩
      exact q H1 s1
    · obtain ⟨s1, ⟨rfl, rfl⟩ | ⟨rfl, rfl⟩⟩ := h1
      · refine ⟨CCN, rfl, xCN, fun ea hea => ?_⟩
        have s2 := s1.trans (Same.new (o := excO ea CCN) hea)
        have he1 : (upd H1 ea (excO ea CCN)) ea = some (excO ea CCN) := upd_same
        generalize upd H1 ea (excO ea CCN) = H2 at s2 he1
        refine ⟨_, rfl, rfl, _, rfl, iteF ?_⟩
        refine ⟨_, rfl, ea, CCN, _, true, rfl, he1, iCN, (fun u hu => by cases hu; exact oCNCN), _, rfl, ea, CCN, _, false, rfl, he1, iCN, (fun u hu => by cases hu; exact oCNTM), _, rfl, ea, CCN, _, true, rfl, he1, iCN, (fun u hu => by cases hu; exact vCN), (by show 3 ≤ sizeLine; decide), fun l hl => ?_⟩
        have s3 := s2.trans (Same.new (o := .lst [V.bl true, V.bl false, V.bl true]) hl)
        have hl3 : (upd H2 l (.lst [V.bl true, V.bl false, V.bl true])) l = some (.lst [V.bl true, V.bl false, V.bl true]) := upd_same
        have he3 := (Same.new (o := .lst [V.bl true, V.bl false, V.bl true]) hl) _ _ he1
        generalize upd H2 l (.lst [V.bl true, V.bl false, V.bl true]) = H3 at s3 hl3 he3
        refine ⟨_, rfl, ea, CCN, _, false, rfl, he3, iCN, (fun u hu => by cases hu; exact oCNRW), _, rfl, iteF ?_⟩
        refine ⟨_, rfl, ea, CCN, _, false, rfl, he3, iCN, (fun u hu => by cases hu; exact oCNST), _, rfl, iteF ?_⟩
        refine ⟨_, rfl, ea, CCN, _, false, rfl, he3, iCN, (fun u hu => by cases hu; exact oCNTX), _, rfl, iteF ?_⟩
        intro p hp
        have s4 := s3.trans (Same.new (o := .dT []) hp)
        have hp4 : (upd H3 p (.dT [])) p = some (.dT []) := upd_same
        have hl4 := (Same.new (o := .dT []) hp) _ _ hl3
        generalize upd H3 p (.dT []) = H4 at s4 hp4 hl4
        refine ⟨(by show 3 ≤ sizeLine; decide), fun t1 ht1 => ⟨(by show 3 ≤ sizeLine; decide), fun t2 ht2 => ?_⟩⟩
        have s51 := Same.new (o := .tup [V.bl true, V.bl false, V.bl true]) ht1
        have s5 := Same.new (o := .tup [V.bl false, V.bl true, V.bl true]) ht2
        have h51 : (upd H4 t1 (.tup [V.bl true, V.bl false, V.bl true])) t1 = some (.tup ([true, false, true].map V.bl)) := upd_same
        have h61 := s5 _ _ h51
        have h62 : (upd (upd H4 t1 (.tup [V.bl true, V.bl false, V.bl true])) t2 (.tup [V.bl false, V.bl true, V.bl true])) t2 = some (.tup ([false, true, true].map V.bl)) := upd_same
        have s6 := (s4.trans s51).trans s5
        have hp6 := s5 _ _ (s51 _ _ hp4)
        have hl6 := s5 _ _ (s51 _ _ hl4)
        generalize upd (upd H4 t1 (.tup [V.bl true, V.bl false, V.bl true])) t2 (.tup [V.bl false, V.bl true, V.bl true]) = H6 at h61 h62 s6 hp6 hl6
        refine ⟨hp6, [true, false, true], [false, true, true], t1, t2, "cut", "many", rfl, by decide, h61, h62, ?_⟩
        have n1 : t1 ≠ p := ne_of h61 hp6 fun z => nomatch z
        have n2 : t2 ≠ p := ne_of h62 hp6 fun z => nomatch z
        have n3 : l ≠ p := ne_of hl6 hp6 fun z => nomatch z
        have h71 : (upd H6 p (bdO P w p [([true, false, true], t1, "cut"), ([false, true, true], t2, "many")])) t1 = some (.tup ([true, false, true].map V.bl)) := by rw [upd_ne n1]; exact h61
        have h72 : (upd H6 p (bdO P w p [([true, false, true], t1, "cut"), ([false, true, true], t2, "many")])) t2 = some (.tup ([false, true, true].map V.bl)) := by rw [upd_ne n2]; exact h62
        have h7l : (upd H6 p (bdO P w p [([true, false, true], t1, "cut"), ([false, true, true], t2, "many")])) l = some (.lst [V.bl true, V.bl false, V.bl true]) := by rw [upd_ne n3]; exact hl6
        have h7p : (upd H6 p (bdO P w p [([true, false, true], t1, "cut"), ([false, true, true], t2, "many")])) p = some (bdO P w p [([true, false, true], t1, "cut"), ([false, true, true], t2, "many")]) := upd_same
        have s7 : Same H (upd H6 p (bdO P w p [([true, false, true], t1, "cut"), ([false, true, true], t2, "many")])) := fun b o e => by
          have e3 := s3 b o e
          rw [upd_ne (ne_of_none e3 hp)]
          exact s6 b o e
        generalize upd H6 p (bdO P w p [([true, false, true], t1, "cut"), ([false, true, true], t2, "many")]) = H7 at h71 h72 h7l h7p s7
        refine ⟨p, _, _, t1, t2, _, _, rfl, h7p, by decide, _, rfl, l, _, rfl, .inl ⟨SqL.of h7l, fun t3 ht3 => ?_⟩⟩
        have s8 := Same.new (o := .tup [V.bl true, V.bl false, V.bl true]) ht3
        refine ⟨s8 _ _ h7p, s8 _ _ h71, s8 _ _ h72, t3, [true, false, true], rfl, upd_same, ?_⟩
        exact q _ (s7.trans s8)

      · refine ⟨CTM, rfl, xTM, fun ea hea => ?_⟩
        have s2 := s1.trans (Same.new (o := excO ea CTM) hea)
        have he1 : (upd H1 ea (excO ea CTM)) ea = some (excO ea CTM) := upd_same
        generalize upd H1 ea (excO ea CTM) = H2 at s2 he1
        refine ⟨_, rfl, rfl, _, rfl, iteF ?_⟩
        refine ⟨_, rfl, ea, CTM, _, false, rfl, he1, iTM, (fun u hu => by cases hu; exact oTMCN), _, rfl, ea, CTM, _, true, rfl, he1, iTM, (fun u hu => by cases hu; exact oTMTM), _, rfl, ea, CTM, _, true, rfl, he1, iTM, (fun u hu => by cases hu; exact vTM), (by show 3 ≤ sizeLine; decide), fun l hl => ?_⟩
        have s3 := s2.trans (Same.new (o := .lst [V.bl false, V.bl true, V.bl true]) hl)
        have hl3 : (upd H2 l (.lst [V.bl false, V.bl true, V.bl true])) l = some (.lst [V.bl false, V.bl true, V.bl true]) := upd_same
        have he3 := (Same.new (o := .lst [V.bl false, V.bl true, V.bl true]) hl) _ _ he1
        generalize upd H2 l (.lst [V.bl false, V.bl true, V.bl true]) = H3 at s3 hl3 he3
        refine ⟨_, rfl, ea, CTM, _, false, rfl, he3, iTM, (fun u hu => by cases hu; exact oTMRW), _, rfl, iteF ?_⟩
        refine ⟨_, rfl, ea, CTM, _, false, rfl, he3, iTM, (fun u hu => by cases hu; exact oTMST), _, rfl, iteF ?_⟩
        refine ⟨_, rfl, ea, CTM, _, false, rfl, he3, iTM, (fun u hu => by cases hu; exact oTMTX), _, rfl, iteF ?_⟩
        intro p hp
        have s4 := s3.trans (Same.new (o := .dT []) hp)
        have hp4 : (upd H3 p (.dT [])) p = some (.dT []) := upd_same
        have hl4 := (Same.new (o := .dT []) hp) _ _ hl3
        generalize upd H3 p (.dT []) = H4 at s4 hp4 hl4
        refine ⟨(by show 3 ≤ sizeLine; decide), fun t1 ht1 => ⟨(by show 3 ≤ sizeLine; decide), fun t2 ht2 => ?_⟩⟩
        have s51 := Same.new (o := .tup [V.bl true, V.bl false, V.bl true]) ht1
        have s5 := Same.new (o := .tup [V.bl false, V.bl true, V.bl true]) ht2
        have h51 : (upd H4 t1 (.tup [V.bl true, V.bl false, V.bl true])) t1 = some (.tup ([true, false, true].map V.bl)) := upd_same
        have h61 := s5 _ _ h51
        have h62 : (upd (upd H4 t1 (.tup [V.bl true, V.bl false, V.bl true])) t2 (.tup [V.bl false, V.bl true, V.bl true])) t2 = some (.tup ([false, true, true].map V.bl)) := upd_same
        have s6 := (s4.trans s51).trans s5
        have hp6 := s5 _ _ (s51 _ _ hp4)
        have hl6 := s5 _ _ (s51 _ _ hl4)
        generalize upd (upd H4 t1 (.tup [V.bl true, V.bl false, V.bl true])) t2 (.tup [V.bl false, V.bl true, V.bl true]) = H6 at h61 h62 s6 hp6 hl6
        refine ⟨hp6, [true, false, true], [false, true, true], t1, t2, "cut", "many", rfl, by decide, h61, h62, ?_⟩
        have n1 : t1 ≠ p := ne_of h61 hp6 fun z => nomatch z
        have n2 : t2 ≠ p := ne_of h62 hp6 fun z => nomatch z
        have n3 : l ≠ p := ne_of hl6 hp6 fun z => nomatch z
        have h71 : (upd H6 p (bdO P w p [([true, false, true], t1, "cut"), ([false, true, true], t2, "many")])) t1 = some (.tup ([true, false, true].map V.bl)) := by rw [upd_ne n1]; exact h61
        have h72 : (upd H6 p (bdO P w p [([true, false, true], t1, "cut"), ([false, true, true], t2, "many")])) t2 = some (.tup ([false, true, true].map V.bl)) := by rw [upd_ne n2]; exact h62
        have h7l : (upd H6 p (bdO P w p [([true, false, true], t1, "cut"), ([false, true, true], t2, "many")])) l = some (.lst [V.bl false, V.bl true, V.bl true]) := by rw [upd_ne n3]; exact hl6
        have h7p : (upd H6 p (bdO P w p [([true, false, true], t1, "cut"), ([false, true, true], t2, "many")])) p = some (bdO P w p [([true, false, true], t1, "cut"), ([false, true, true], t2, "many")]) := upd_same
        have s7 : Same H (upd H6 p (bdO P w p [([true, false, true], t1, "cut"), ([false, true, true], t2, "many")])) := fun b o e => by
          have e3 := s3 b o e
          rw [upd_ne (ne_of_none e3 hp)]
          exact s6 b o e
        generalize upd H6 p (bdO P w p [([true, false, true], t1, "cut"), ([false, true, true], t2, "many")]) = H7 at h71 h72 h7l h7p s7
        refine ⟨p, _, _, t1, t2, _, _, rfl, h7p, by decide, _, rfl, l, _, rfl, .inl ⟨SqL.of h7l, fun t3 ht3 => ?_⟩⟩
        have s8 := Same.new (o := .tup [V.bl false, V.bl true, V.bl true]) ht3
        refine ⟨s8 _ _ h7p, s8 _ _ h71, s8 _ _ h72, t3, [false, true, true], rfl, upd_same, ?_⟩
        exact q _ (s7.trans s8)
end
end Own

namespace Own
open PySem L2
section
variable {P : Program} {w : World} {K : PySem.W.Frag} {mg : Str → Option Value} {base : Heap}
seal PySem.wpAny
noncomputable abbrev sHas : Stmt := top 1
theorem scHas : FnScope ["some", "column"] ["some", "column"] (defScope sHas) := ⟨rfl, rfl, rfl, by decide +kernel, rfl, by decide +kernel, by decide +kernel⟩
theorem ok_has {f : Addr} {fd : FuncData} (F : Fun K "has_column" "has_column" sHas f fd) : FnOk P w K mg base CX0 1 f fd ["some", "column"] spHas := by
  refine F.ok scHas (fun vs H Q E h => ?_) (fun cdv A outer s H vs Q E hr h => ?_)
  · obtain ⟨a, k, rfl, _⟩ := h
    rfl
  · obtain ⟨a, k, rfl, q⟩ := h
    refine ⟨_, pss_one (ps_ret (pe_cmpR op_eq (pe_op op_and (pe_op op_shr (pv 0) (pv 1)) pe_int) pe_int (nomark _))), ?_⟩
    refine ⟨_, rfl, _, rfl, _, _, rfl, rfl, (by omega), _, _, rfl, rfl, rfl, ?_⟩
    show Q (V.bl (decide (V.int (Builtin.bitAnd ((a : Int) / 2 ^ (k : Int).toNat) 1) = V.int 1))) H
    rw [has_eq]
    exact q
noncomputable abbrev sCols : Stmt := top 2
theorem scCols : FnScope ["some"] ["some"] (defScope sCols) := ⟨rfl, rfl, rfl, by decide +kernel, rfl, by decide +kernel, by decide +kernel⟩
theorem ok_cols {f fH : Addr} {fd fdH : FuncData} (F : Fun K "columns_of" "columns_of" sCols f fd) (GH : FnOk P w K mg base CX0 1 fH fdH ["some", "column"] spHas) (mH : mg "has_column" = some (.ref fH)) (kH : PySem.W.keepIn K (.ref fH) = true) (bH : Binds K fdH ["some", "column"] []) (zR : mg "range" = none) : FnOk P w K mg base CX0 2 f fd ["some"] spCols := by
  refine F.ok scCols (fun vs H Q E h => ?_) (fun cdv A outer s H vs Q E hr h => ?_)
  · obtain ⟨a, rfl, _⟩ := h
    rfl
  · obtain ⟨a, rfl, ha, q⟩ := h
    refine ⟨_, pss_one (ps_ret (pe_comp (xs := ["column"]) (cs ["some"] (defScope sCols) rfl rfl (by decide +kernel)) rfl (pi_range1 rfl zR (pa_cons (pe_bm0 PySem.F.plainAttrs_int PySem.F.slot_int_bit_length PySem.F.type_int_bit_length mt_bitlen (pv 0)) pa_nil))
      (fun _ _ _ => pg_name (i := 0) (show (["column", "some"] : List Str).Nodup by decide +kernel) rfl (Or.inl rfl)) (fun _ _ _ => pts_one (pt_val (pe_call GH hr rfl mH kH bH .nil pass0 (pa_cons (pv 1) (pa_cons (pv 0) pa_nil))))) (fun _ _ _ => pv 0))), ?_⟩
    refine ⟨_, rfl, rfl, (a : Int), rfl, rfl, _, rfl, (by omega), ?_, ?_⟩
    · have := bitsN_le ha
      show ((bitsN a : Nat) : Int) < _
      omega
    · refine lc_range (lo := 0) (k := ((bitsN a : Nat) : Int).toNat) (n := 1) (fun i acc H' => H' = H ∧ acc = ((List.range i).filter (hasB a)).map vN) ?_ ⟨rfl, rfl⟩ (fun i acc H' hi h => ?_) (fun i acc H' hi h => ?_) (fun acc H' h => ?_)
      · have := bitsN_le ha
        omega
      · rw [h.2, List.length_map]
        exact Nat.le_trans (List.length_filter_le _ _) (by simp)
      · obtain ⟨rfl, rfl⟩ := h
        refine ⟨rfl, _, rfl, _, rfl, a, i, ?_, _, rfl, ?_⟩
        · show [vN a, V.int (0 + (i : Int))] = _
          rw [Int.zero_add]; rfl
        · refine ite2 (fun hc => ?_) (fun hc => ?_)
          · refine ⟨_, rfl, rfl, ?_⟩
            rw [filt_succ, if_pos hc, List.map_append, Int.zero_add]
            rfl
          · refine ⟨rfl, ?_⟩
            rw [filt_succ, if_neg hc, List.append_nil]
      · obtain ⟨rfl, rfl⟩ := h
        intro p hp
        exact q p hp
noncomputable abbrev sAll : Stmt := top 3
theorem scAll : FnScope ["many"] ["many"] (defScope sAll) := ⟨rfl, rfl, rfl, by decide +kernel, rfl, by decide +kernel, by decide +kernel⟩
theorem ok_all {f : Addr} {fd : FuncData} (F : Fun K "all_of" "all_of" sAll f fd) : FnOk P w K mg base CX0 1 f fd ["many"] spAllOf := by
  refine F.ok scAll (fun vs H Q E h => ?_) (fun cdv A outer s H vs Q E hr h => ?_)
  · obtain ⟨m, rfl, _⟩ := h
    rfl
  · obtain ⟨m, rfl, hm, q⟩ := h
    refine ⟨_, pss_one (ps_ret (pe_op op_sub (pe_op op_shl pe_int (pv 0)) pe_int)), ?_⟩
    refine ⟨_, rfl, _, _, rfl, rfl, cpow1 hm, _, _, rfl, rfl, ?_⟩
    show Q (V.int (1 * 2 ^ (m : Int).toNat - 1)) H
    have pw : 0 < 2 ^ m := Nat.two_pow_pos m
    have e : (1 : Int) * 2 ^ (m : Int).toNat - 1 = ((2 ^ m - 1 : Nat) : Int) := by rw [shl1]; omega
    rw [e]
    exact q
noncomputable abbrev sWithin : Stmt := top 4
noncomputable def spWithin : Sp := fun vs H Q _ => ∃ a b : Nat, vs = [.int (a : Int), .int (b : Int)] ∧ Q (.bl (decide (a &&& b = a))) H
theorem scWithin : FnScope ["one", "other"] ["one", "other"] (defScope sWithin) := ⟨rfl, rfl, rfl, by decide +kernel, rfl, by decide +kernel, by decide +kernel⟩
theorem ok_within {f : Addr} {fd : FuncData} (F : Fun K "is_within" "is_within" sWithin f fd) : FnOk P w K mg base CX0 1 f fd ["one", "other"] spWithin := by
  refine F.ok scWithin (fun vs H Q E h => ?_) (fun cdv A outer s H vs Q E hr h => ?_)
  · obtain ⟨a, b, rfl, _⟩ := h
    rfl
  · obtain ⟨a, b, rfl, q⟩ := h
    refine ⟨_, pss_one (ps_ret (pe_cmpR op_eq (pe_op op_and (pv 0) (pv 1)) (pv 0) (nomark _))), ?_⟩
    refine ⟨_, rfl, _, rfl, _, _, rfl, rfl, _, rfl, rfl, ?_⟩
    show Q (V.bl (decide (V.int (Builtin.bitAnd (a : Int) (b : Int)) = V.int (a : Int)))) H
    rw [bitAnd_nat, dec_int]
    have e : (((a &&& b : Nat) : Int) == (a : Int)) = decide (a &&& b = a) := by
      rw [Bool.eq_iff_iff, beq_iff_eq, decide_eq_true_iff]
      exact Int.ofNat_inj
    rw [e]
    exact q
noncomputable abbrev sAlike : Stmt := top 6
theorem scAlike : FnScope ["one", "other", "some"] ["one", "other", "some"] (defScope sAlike) := ⟨rfl, rfl, rfl, by decide +kernel, rfl, by decide +kernel, by decide +kernel⟩
theorem ok_alike {f fC : Addr} {fd fdC : FuncData} (F : Fun K "alike" "alike" sAlike f fd) (GC : FnOk P w K mg base CX0 2 fC fdC ["some"] spCols) (mC : mg "columns_of" = some (.ref fC)) (kC : PySem.W.keepIn K (.ref fC) = true) (bC : Binds K fdC ["some"] []) (zall : mg "all" = none) : FnOk P w K mg base CX0 3 f fd ["one", "other", "some"] (spAlike K) := by
  refine F.ok scAlike (fun vs H Q E h => ?_) (fun cdv A outer s H vs Q E hr h => ?_)
  · obtain ⟨a, b, r1, r2, x, rfl, _⟩ := h
    rfl
  · obtain ⟨a, b, r1, r2, x, rfl, ha, hb, hx, hc, q⟩ := h
    refine ⟨_, (pss_one (ps_ret (pe_callB (call_allK (K := K) rfl rfl) (by rfl) zall PyProof.Rows.boot_all (pa_cons (pe_comp (xs := ["column"]) (cs ["one", "other", "some"] (defScope sAlike) rfl rfl (by decide +kernel)) rfl (pi_listK (K := K) rfl (pe_call GC hr rfl mC kC bC .nil pass0 (pa_cons (pv 2) pa_nil))) (fun _ _ _ => pg_name (i := 0) (show (["column", "one", "other", "some"] : List Str).Nodup by decide +kernel) rfl (Or.inl rfl)) (fun _ _ _ => pts_nil) (fun _ _ _ => (pe_cmpR op_eqI (pe_ix (ix_tupK (K := K) rfl) (pv 1) (pv 0) (fun _ _ => rfl)) (pe_ix (ix_tupK (K := K) rfl) (pv 2) (pv 0) (fun _ _ => rfl)) (nomark _)))) pa_nil)))), ?_⟩
    refine ⟨_, rfl, x, rfl, hx, fun d hd => ⟨d, rfl, ⟨_, SqL.of upd_same⟩, ?_⟩⟩
    have s1 : Same H (upd H d (.lst ((colsN x).map vN))) := Same.new hd
    have hd1 : (upd H d (.lst ((colsN x).map vN))) d = some (.lst ((colsN x).map vN)) := upd_same
    generalize upd H d (.lst ((colsN x).map vN)) = H1 at s1 hd1
    have cl : (colsN x).length ≤ 1000 := Nat.le_trans (List.length_filter_le _ _) (by rw [List.length_range]; exact Nat.le_trans (bitsN_le hx) (by decide))
    refine lc_list (xs := (colsN x).map vN) (fun i acc H' => H' = H1 ∧ acc = (((colsN x).take i).map fun c => decide (r1.getD c 0 = r2.getD c 0)).map V.bl) (by rw [List.length_map]; omega) ⟨rfl, rfl⟩ (fun i acc H' hi h => ?_) (fun i y acc H' hy h => ?_) (fun acc H' h => ?_)
    · rw [h.1, h.2]
      exact ⟨SqL.of hd1, by rw [List.length_map, List.length_map]; exact List.length_take_le _ _⟩
    · obtain ⟨rfl, rfl⟩ := h
      rw [List.getElem?_map] at hy
      cases ez : (colsN x)[i]? with
      | none => rw [ez] at hy; cases hy
      | some c =>
        rw [ez] at hy
        obtain rfl := (Option.some.inj hy).symm
        obtain ⟨c1, c2⟩ := hc c (List.mem_of_getElem? ez)
        refine ⟨rfl, _, rfl, _, rfl, a, _, _, _, rfl, rfl, s1.tupS ha, atI_nat (j := c) (getD_int c1), _, rfl, _, rfl, b, _, _, _, rfl, rfl, s1.tupS hb, atI_nat (j := c) (getD_int c2), _, _, rfl, rfl, rfl, ?_⟩
        rw [List.take_succ, ez, List.map_append, List.map_append]
        rfl
    · obtain ⟨rfl, rfl⟩ := h
      intro e he
      refine ⟨e, _, rfl, SqL.of upd_same, ?_⟩
      rw [List.length_map, List.take_length]
      exact q _ (s1.trans (Same.new he))
noncomputable abbrev sMixed : Stmt := top 7
theorem scMixed : FnScope ["one", "other", "some"] ["one", "other", "some"] (defScope sMixed) := ⟨rfl, rfl, rfl, by decide +kernel, rfl, by decide +kernel, by decide +kernel⟩
theorem ok_mixed {f fH : Addr} {fd fdH : FuncData} (F : Fun K "mixed" "mixed" sMixed f fd) (GH : FnOk P w K mg base CX0 1 fH fdH ["some", "column"] spHas) (mH : mg "has_column" = some (.ref fH)) (kH : PySem.W.keepIn K (.ref fH) = true) (bH : Binds K fdH ["some", "column"] []) (zrange : mg "range" = none) (zlen : mg "len" = none) (ztuple : mg "tuple" = none) : FnOk P w K mg base CX0 2 f fd ["one", "other", "some"] (spMixed K) := by
  refine F.ok scMixed (fun vs H Q E h => ?_) (fun cdv A outer s H vs Q E hr h => ?_)
  · obtain ⟨a, b, r1, r2, x, rfl, _⟩ := h
    rfl
  · obtain ⟨a, b, r1, r2, x, rfl, ha, hb, hl, hl2, q⟩ := h
    refine ⟨_, (pss_one (ps_ret (pe_callTy (call_tupleK (K := K) rfl) (by rfl) ztuple PyProof.Rows.boot_tuple (pa_cons (pe_comp (xs := ["column"]) (cs ["one", "other", "some"] (defScope sMixed) rfl rfl (by decide +kernel)) rfl (pi_range1 rfl zrange (pa_cons (pe_callB (call_lenK (K := K) rfl) (by rfl) zlen PySem.boot_len (pa_cons (pv 0) pa_nil)) pa_nil)) (fun _ _ _ => pg_name (i := 0) (show (["column", "one", "other", "some"] : List Str).Nodup by decide +kernel) rfl (Or.inl rfl)) (fun _ _ _ => pts_nil) (fun _ _ _ => (pe_ifExp (pt_val (pe_call GH hr rfl mH kH bH .nil pass0 (pa_cons (pv 3) (pa_cons (pv 0) pa_nil)))) (pe_ix (ix_tupK (K := K) rfl) (pv 1) (pv 0) (fun _ _ => rfl)) (pe_ix (ix_tupK (K := K) rfl) (pv 2) (pv 0) (fun _ _ => rfl))))) pa_nil)))), ?_⟩
    have lm : (r1.map V.int).length = r1.length := List.length_map ..
    refine ⟨_, rfl, a, _, rfl, .inr ha, _, rfl, (by omega), (by omega), lc_rangeN (k := (r1.map V.int).length) (n := 1) (fun i acc H' => H' = H ∧ acc = ((List.range i).map fun k => if hasB x k = true then r1.getD k 0 else r2.getD k 0).map V.int) (by omega) ⟨rfl, rfl⟩ (fun i acc H' hi h => ?_) (fun i acc H' hi h => ?_) (fun acc H' h => ?_)⟩
    · rw [h.2, List.length_map, List.length_map, List.length_range]; exact Nat.le_refl _
    · obtain ⟨rfl, rfl⟩ := h
      rw [lm] at hi
      refine ⟨rfl, _, rfl, _, rfl, x, i, rfl, _, rfl, ?_⟩
      refine ite2 (fun hc => ?_) (fun hc => ?_)
      · refine ⟨_, rfl, _, rfl, a, _, _, _, rfl, rfl, ha, atI_nat (j := i) (getD_int hi), rfl, ?_⟩
        rw [List.range_succ, List.map_append, List.map_append, List.map_singleton, if_pos hc]
        rfl
      · refine ⟨_, rfl, _, rfl, b, _, _, _, rfl, rfl, hb, atI_nat (j := i) (getD_int (by omega)), rfl, ?_⟩
        rw [List.range_succ, List.map_append, List.map_append, List.map_singleton, if_neg hc]
        rfl
    · obtain ⟨rfl, rfl⟩ := h
      intro d hd
      refine ⟨d, _, rfl, .inl ⟨SqL.of upd_same, fun t ht => ?_⟩⟩
      have ss := (Same.new (o := .lst (((List.range (r1.map V.int).length).map fun k => if hasB x k = true then r1.getD k 0 else r2.getD k 0).map V.int)) hd)
      refine q t _ (ss.trans (Same.new ht)) (ss.free ht) ?_
      rw [upd_same, lm]
      rfl
noncomputable abbrev sNoughts : Stmt := top 8
theorem scNoughts : FnScope ["many"] ["many"] (defScope sNoughts) := ⟨rfl, rfl, rfl, by decide +kernel, rfl, by decide +kernel, by decide +kernel⟩
theorem ok_noughts {f : Addr} {fd : FuncData} (F : Fun K "noughts" "noughts" sNoughts f fd) : FnOk P w K mg base CX0 1 f fd ["many"] spNoughts := by
  refine F.ok scNoughts (fun vs H Q E h => ?_) (fun cdv A outer s H vs Q E hr h => ?_)
  · obtain ⟨m, rfl, _⟩ := h
    rfl
  · obtain ⟨m, rfl, h1, h20, q⟩ := h
    refine ⟨_, (pss_one (ps_ret (pe_op op_repT (pe_tup (pa_cons pe_int pa_nil)) (pv 0)))), ?_⟩
    refine ⟨(by show 1 ≤ sizeLine; decide), fun l hl => ?_⟩
    refine ⟨_, rfl, l, V.int 0, m, rfl, rfl, upd_same, h1, by omega, fun e => ?_, fun e p hp => ?_⟩
    · subst e
      exact q l _ (Same.new hl) hl upd_same
    · refine q p _ ((Same.new hl).trans (Same.new hp)) ((Same.new hl).free hp) ?_
      rw [upd_same, List.map_replicate]
noncomputable abbrev sUnlike : Stmt := top 20
theorem scUnlike : FnScope ["one", "other", "some", "column"] ["one", "other", "some"] (defScope sUnlike) := ⟨rfl, rfl, rfl, by decide +kernel, rfl, by decide +kernel, by decide +kernel⟩
theorem ok_unlike {f fC : Addr} {fd fdC : FuncData} (F : Fun K "first_unlike" "first_unlike" sUnlike f fd) (GC : FnOk P w K mg base CX0 2 fC fdC ["some"] spCols) (mC : mg "columns_of" = some (.ref fC)) (kC : PySem.W.keepIn K (.ref fC) = true) (bC : Binds K fdC ["some"] []) : FnOk P w K mg base CX0 3 f fd ["one", "other", "some"] (spUnlike K) := by
  refine F.ok scUnlike (fun vs H Q E h => ?_) (fun cdv A outer s' H vs Q E hr h => ?_)
  · obtain ⟨a, b, r1, r2, s, m, rfl, _⟩ := h
    rfl
  · obtain ⟨a, b, r1, r2, s, m, rfl, ha, hb, l1, l2, m7, hs, qn, qs⟩ := h
    have nd := scUnlike.nd
    have hr2 : Room 2 _ := hr.mono (by decide)
    have p7 := pow7 m7
    have cm := cols_mem (a := s) (by omega)
    refine ⟨_, (pss_cons (ps_for PassesOwn.never rfl (pi_listK (K := K) rfl (pe_call GC hr2 rfl mC kC bC .nil pass0 (pa_cons (pv 2) pa_nil))) (pg_name (i := 3) nd rfl (Or.inl rfl)) (pss_one (ps_if (pt_cmpR op_neI (pe_ix (ix_tupK (K := K) rfl) (pv 0) (pv 3) (fun _ _ => rfl)) (pe_ix (ix_tupK (K := K) rfl) (pv 1) (pv 3) (fun _ _ => rfl)) (nomark _)) (pss_one (ps_ret (pv 3))) pss_nil)))
      (pss_one (ps_ret pe_non))), ?_⟩
    refine ⟨_, rfl, s, rfl, by omega, fun cp hcp => ⟨cp, rfl, ⟨_, SqL.of upd_same⟩, ?_⟩⟩
    refine for_list (K := K) (xs := (colsN s).map vN) (fun i σ H' => (∃ v3, σ = [some (.ref a), some (.ref b), some (vN s), v3]) ∧ Same H H' ∧ H' cp = some (.lst ((colsN s).map vN)) ∧ ((colsN s).take i).find? (fun c => !decide (r1.getD c 0 = r2.getD c 0)) = none) ⟨⟨_, rfl⟩, Same.new hcp, upd_same, rfl⟩ (fun i σ H' _ h => SqL.of h.2.2.1) ?_ ?_
    · rintro i v σ H1 hv ⟨⟨v3, rfl⟩, s1, hc1, hn⟩
      rw [List.getElem?_map] at hv
      cases ec : (colsN s)[i]? with
      | none => rw [ec] at hv; cases hv
      | some c =>
        rw [ec] at hv
        obtain rfl := (Option.some.inj hv).symm
        have hcm : c < m := hasb_lt hs ((cm c).mp (List.mem_of_getElem? ec))
        refine ⟨_, rfl, _, rfl, a, _, _, _, rfl, rfl, SqT.of (s1 _ _ ha), atI_nat (getD_int (by omega)), _, rfl, _, rfl, b, _, _, _, rfl, rfl, SqT.of (s1 _ _ hb), atI_nat (getD_int (by omega)), r1.getD c 0, r2.getD c 0, rfl, rfl, _, rfl, ?_⟩
        refine ite2 (fun hb' => ?_) (fun hb' => ?_)
        · exact ⟨_, rfl, qs c H1 s1 (find_hit hn ec hb')⟩
        · exact ⟨⟨_, rfl⟩, s1, hc1, find_miss hn ec hb'⟩
    · rintro σ H1 ⟨⟨v3, rfl⟩, s1, hc1, hn⟩
      rw [List.length_map, List.take_length] at hn
      exact qn H1 s1 hn
noncomputable abbrev sPlace : Stmt := top 21
theorem scPlace : FnScope ["rows", "rule", "first", "one", "second", "column"] ["rows", "rule"] (defScope sPlace) := ⟨rfl, rfl, rfl, by decide +kernel, rfl, by decide +kernel, by decide +kernel⟩
theorem ok_place {f fL fUL : Addr} {fd fdL fdUL : FuncData} (F : Fun K "first_place" "first_place" sPlace f fd) (GL : FnOk P w K mg base CX0 3 fL fdL ["one", "other", "some"] (spAlike K)) (mL : mg "alike" = some (.ref fL)) (kL : PySem.W.keepIn K (.ref fL) = true) (bL : Binds K fdL ["one", "other", "some"] []) (GUL : FnOk P w K mg base CX0 3 fUL fdUL ["one", "other", "some"] (spUnlike K)) (mUL : mg "first_unlike" = some (.ref fUL)) (kUL : PySem.W.keepIn K (.ref fUL) = true) (bUL : Binds K fdUL ["one", "other", "some"] []) (zenumerate : mg "enumerate" = none) (zrange : mg "range" = none) (zlen : mg "len" = none) : FnOk P w K mg base CX0 4 f fd ["rows", "rule"] (spFirstPlace K) := by
  refine F.ok scPlace (fun vs H Q E h => ?_) (fun cdv A outer s' H vs Q E hr h => ?_)
  · obtain ⟨tl, r, ts, T, m, x, y, st, rfl, _⟩ := h
    rfl
  · obtain ⟨tl, r, ts, T, m, x, y, st, rfl, htl, hT, m7, lT, hR, hx, hy, qn, qs⟩ := h
    have nd := scPlace.nd
    have hr3 : Room 3 _ := hr.mono (by decide)
    have p7 := pow7 m7
    have ltm : (ts.map V.ref).length = T.length := by rw [List.length_map]; exact hT.len
    have cx : ∀ c ∈ colsN x, c < m := fun c hc => hasb_lt hx ((cols_mem (a := x) (by omega) c).mp hc)
    refine ⟨_, (pss_cons (ps_for PassesOwn.never rfl (pi_enum (K := K) rfl rfl zenumerate (pa_cons (pv 0) pa_nil)) (pg_tup rfl (pgs_cons (pg_name (i := 2) nd rfl (Or.inl rfl)) (pgs_cons (pg_name (i := 3) nd rfl (Or.inl rfl)) pgs_nil))) (pss_one (ps_for PassesOwn.never rfl (pi_range2 rfl zrange (pa_cons (pe_op op_addN (pv 2) pe_int) (pa_cons (pe_callB (call_lenK (K := K) rfl) (by rfl) zlen PySem.boot_len (pa_cons (pv 0) pa_nil)) pa_nil))) (pg_name (i := 4) nd rfl (Or.inl rfl)) (pss_one (ps_if (pt_val (pe_call GL hr3 rfl mL kL bL .nil pass0 (pa_cons (pv 3) (pa_cons (pe_ix (ix_listK (K := K) rfl) (pv 0) (pv 4) (fun _ _ => rfl)) (pa_cons (pe_ix (ix_tupK (K := K) rfl) (pv 1) pe_int (fun _ _ => rfl)) pa_nil))))) (pss_cons (ps_set (i := 5) nd rfl (Or.inl rfl) (pe_call GUL hr3 rfl mUL kUL bUL .nil pass0 (pa_cons (pv 3) (pa_cons (pe_ix (ix_listK (K := K) rfl) (pv 0) (pv 4) (fun _ _ => rfl)) (pa_cons (pe_ix (ix_tupK (K := K) rfl) (pv 1) pe_int (fun _ _ => rfl)) pa_nil)))))
      (pss_one (ps_if (pt_cmpR op_notN (pv 5) pe_non (nomark _)) (pss_one (ps_ret (pe_tup (pa_cons (pv 2) (pa_cons (pv 4) (pa_cons (pv 5) pa_nil)))))) pss_nil))) pss_nil)))))
      (pss_one (ps_ret pe_non))), ?_⟩
    refine ⟨_, rfl, tl, _, rfl, htl, for_enum (xs := ts.map V.ref) (fun i σ H' => (∃ v2 v3 v4 v5, σ = [some (.ref tl), some (.ref r), v2, v3, v4, v5]) ∧ Same H H' ∧ ((List.range T.length).take i).findSome? (inP T x y) = none) ⟨⟨none, none, none, none, rfl⟩, Same.refl _, rfl⟩ (fun i σ H' _ h => h.2.1.seq htl) ?_ ?_⟩
    · rintro i v σ H0 t0 hv ⟨⟨v2, v3, v4, v5, rfl⟩, s0, u0⟩ ht0
      rw [List.getElem?_map] at hv
      cases ei : ts[i]? with
      | none => rw [ei] at hv; cases hv
      | some ta =>
        rw [ei] at hv
        obtain rfl := (Option.some.inj hv).symm
        obtain ⟨ra, eA, hra, lra⟩ := hT.get ei
        have hi : i < T.length := (List.getElem?_eq_some_iff.mp eA).1
        have s1 := s0.trans (Same.new (o := .tup [.int (i : Int), V.ref ta]) ht0)
        refine ⟨t0, _, rfl, SqT.of upd_same, rfl, _, _, rfl, _, _, rfl, rfl, ?_⟩
        generalize upd H0 t0 (.tup [.int (i : Int), V.ref ta]) = H1 at s1
        refine ⟨_, rfl, i, 1, rfl, rfl, _, rfl, tl, _, rfl, .inl (s1.seq htl), ((i + 1 : Nat) : Int), (((ts.map V.ref).length : Nat) : Int), rfl, ⟨by omega, by omega, by omega, by omega⟩, ?_⟩
        rw [to_nat, ltm]
        refine for_rangeF (a := i + 1) (n := T.length - (i + 1)) (fun j σ H' => (∃ v4 v5, σ = [some (.ref tl), some (.ref r), some (vN i), some (.ref ta), v4, v5]) ∧ Same H H' ∧ ((List.range' (i + 1) (T.length - (i + 1))).take j).findSome? (tryP T x y i) = none) ⟨⟨_, _, rfl⟩, s1, rfl⟩ ?_ ?_
        · rintro j σ H2 hj ⟨⟨w4, w5, rfl⟩, s2, u2⟩
          have hj2 : i + 1 + j < ts.length := by rw [hT.len]; omega
          have ej : ts[i + 1 + j]? = some ts[i + 1 + j] := List.getElem?_eq_getElem hj2
          obtain ⟨tb, htb⟩ : ∃ tb, tb = ts[i + 1 + j] := ⟨_, rfl⟩
          rw [← htb] at ej
          have ejv : (ts.map V.ref)[i + 1 + j]? = some (V.ref tb) := by rw [List.getElem?_map, ej]; rfl
          obtain ⟨rb, eB, hrb, lrb⟩ := hT.get ej
          have eg := range'_get (s := i + 1) hj
          have hR2 := s2 _ _ hR
          have etry : tryP T x y i (i + 1 + j) = if alikeL ra rb x = true then (unlN ra rb y).map fun c => (i, i + 1 + j, c) else none := by
            unfold tryP
            rw [rowT_of eA, rowT_of eB]
          refine ⟨_, rfl, _, rfl, _, rfl, tl, _, _, _, rfl, rfl, s2.seq htl, atI_nat ejv, _, rfl, r, _, _, _, rfl, rfl, SqT.of hR2, atI_nat (j := 1) rfl, ta, tb, ra, rb, x, rfl, SqT.of (s2 _ _ hra), SqT.of (s2 _ _ hrb), by omega, (fun c hc => ⟨by have := cx c hc; omega, by have := cx c hc; omega⟩), fun H3 s3 => ⟨_, rfl, ite2 (fun hal => ?_) (fun hal => ?_)⟩⟩
          · rw [if_pos hal] at etry
            have s23 := s2.trans s3
            have hR3 := s23 _ _ hR
            refine ⟨_, rfl, _, rfl, _, rfl, tl, _, _, _, rfl, rfl, s23.seq htl, atI_nat ejv, _, rfl, r, _, _, _, rfl, rfl, SqT.of hR3, atI_nat (j := 2) rfl, ta, tb, ra, rb, y, m, rfl, s23 _ _ hra, s23 _ _ hrb, lra, lrb, m7, hy, fun H4 s4 hn => ?_, fun c H4 s4 hc => ?_⟩
            · refine ⟨_, rfl, rfl, _, rfl, iteF ?_⟩
              rw [hn] at etry
              exact ⟨⟨_, _, rfl⟩, s23.trans s4, some_miss u2 eg etry⟩
            · refine ⟨_, rfl, rfl, _, rfl, iteT ?_⟩
              rw [hc] at etry
              have s24 := s23.trans s4
              refine ⟨_, rfl, _, rfl, _, rfl, (by show 3 ≤ sizeLine; decide), fun t ht => ?_⟩
              have hin : inP T x y i = some (i, i + 1 + j, c) := some_hit u2 eg etry
              exact qs (i, i + 1 + j, c) t _ (s24.trans (Same.new ht)) (some_hit u0 (range_get2 hi) hin) (s24.none ht) upd_same
          · rw [if_neg hal] at etry
            exact ⟨⟨_, _, rfl⟩, s2.trans s3, some_miss u2 eg etry⟩
        · rintro σ H2 ⟨⟨w4, w5, rfl⟩, s2, u2⟩
          rw [List.take_of_length_le (by rw [List.length_range']; exact Nat.le_refl _)] at u2
          exact ⟨⟨_, _, _, _, rfl⟩, s2, some_miss u0 (range_get2 hi) u2⟩
    · rintro σ H' ⟨⟨v2, v3, v4, v5, rfl⟩, s', u'⟩
      rw [ltm, List.take_of_length_le (by rw [List.length_range]; exact Nat.le_refl _)] at u'
      exact qn H' s' u'
noncomputable abbrev sStep : Stmt := top 22
theorem scStep : FnScope ["rules", "rows", "number", "rule", "place"] ["rules", "rows"] (defScope sStep) := ⟨rfl, rfl, rfl, by decide +kernel, rfl, by decide +kernel, by decide +kernel⟩
theorem ok_step {f fFP : Addr} {fd fdFP : FuncData} (F : Fun K "first_step" "first_step" sStep f fd) (GFP : FnOk P w K mg base CX0 4 fFP fdFP ["rows", "rule"] (spFirstPlace K)) (mFP : mg "first_place" = some (.ref fFP)) (kFP : PySem.W.keepIn K (.ref fFP) = true) (bFP : Binds K fdFP ["rows", "rule"] []) (zenumerate : mg "enumerate" = none) : FnOk P w K mg base CX0 5 f fd ["rules", "rows"] (spFirstStep K) := by
  refine F.ok scStep (fun vs H Q E h => ?_) (fun cdv A outer s' H vs Q E hr h => ?_)
  · obtain ⟨rl, tl, rs, ts, T, m, rfl, _⟩ := h
    rfl
  · obtain ⟨rl, tl, rs, ts, T, m, rfl, hrl, hRs, lr, htl, hT, m7, lT, qn, qs⟩ := h
    have nd := scStep.nd
    have hr4 : Room 4 _ := hr.mono (by decide)
    refine ⟨_, (pss_cons (ps_for PassesOwn.never rfl (pi_enum (K := K) rfl rfl zenumerate (pa_cons (pv 0) pa_nil)) (pg_tup rfl (pgs_cons (pg_name (i := 2) nd rfl (Or.inl rfl)) (pgs_cons (pg_name (i := 3) nd rfl (Or.inl rfl)) pgs_nil))) (pss_one (ps_if (pt_cmpR op_eq (pe_ix (ix_tupK (K := K) rfl) (pv 3) pe_int (fun _ _ => rfl)) pe_str (nomark _)) (pss_cons (ps_set (i := 4) nd rfl (Or.inl rfl) (pe_call GFP hr4 rfl mFP kFP bFP .nil pass0 (pa_cons (pv 1) (pa_cons (pv 3) pa_nil))))
      (pss_one (ps_if (pt_cmpR op_notN (pv 4) pe_non (nomark _)) (pss_one (ps_ret (pe_op (op_catA (K := K) rfl) (pe_tup (pa_cons (pv 2) pa_nil)) (pv 4)))) pss_nil))) pss_nil)))
      (pss_one (ps_ret pe_non))), ?_⟩
    refine ⟨_, rfl, rl, _, rfl, hrl, for_enum (xs := rs.map fun (r : Rl) => V.ref r.r) (fun i σ H' => (∃ v2 v3 v4, σ = [some (.ref rl), some (.ref tl), v2, v3, v4]) ∧ Same H H' ∧ ((List.range (rs.map Rl.d).length).take i).findSome? (tryS T (rs.map Rl.d)) = none) ⟨⟨none, none, none, rfl⟩, Same.refl _, rfl⟩ (fun i σ H' _ h => h.2.1.seq hrl) ?_ ?_⟩
    · rintro i v σ H0 t0 hv ⟨⟨v2, v3, v4, rfl⟩, s0, u0⟩ ht0
      rw [List.getElem?_map] at hv
      cases er : rs[i]? with
      | none => rw [er] at hv; cases hv
      | some r =>
        rw [er] at hv
        obtain rfl := (Option.some.inj hv).symm
        have hi : i < (rs.map Rl.d).length := by rw [List.length_map]; exact (List.getElem?_eq_some_iff.mp er).1
        obtain ⟨r1, r2, r3⟩ := hRs r (List.mem_of_getElem? er)
        have erd : (rs.map Rl.d)[i]? = some (r.st, r.x, r.y) := by rw [List.getElem?_map, er]; rfl
        have s1 := s0.trans (Same.new (o := .tup [.int (i : Int), V.ref r.r]) ht0)
        refine ⟨t0, _, rfl, SqT.of upd_same, rfl, _, _, rfl, _, _, rfl, rfl, ?_⟩
        generalize upd H0 t0 (.tup [.int (i : Int), V.ref r.r]) = H1 at s1
        have hR1 := s1 _ _ r1
        refine ⟨_, rfl, r.r, _, _, _, rfl, rfl, SqT.of hR1, atI_nat (j := 0) rfl, rfl, _, rfl, ?_⟩
        cases est : r.st with
        | false =>
          rw [est] at erd
          refine ite2 (fun hc => absurd (of_decide_eq_true hc) (by intro z; injection z with z; revert z; decide)) (fun _ => ?_)
          exact ⟨⟨_, _, _, rfl⟩, s1, some_miss u0 (range_get2 hi) (by unfold tryS; rw [erd])⟩
        | true =>
          rw [est] at erd
          refine ite2 (fun _ => ?_) (fun hc => absurd (decide_eq_true rfl) hc)
          have et : tryS T (rs.map Rl.d) i = (firstP T r.x r.y).map fun p => (i, p) := by unfold tryS; rw [erd]
          refine ⟨_, rfl, _, rfl, tl, r.r, ts, T, m, r.x, r.y, r.st, rfl, s1.seq htl, hT.same s1, m7, lT, hR1, r2, r3, fun H2 s2 hn => ?_, fun p t H2 s2 hp ht0' ht => ?_⟩
          · refine ⟨_, rfl, rfl, _, rfl, iteF ?_⟩
            exact ⟨⟨_, _, _, rfl⟩, s1.trans s2, some_miss u0 (range_get2 hi) (by rw [et, hn]; rfl)⟩
          · refine ⟨_, rfl, rfl, _, rfl, iteT ?_⟩
            refine ⟨_, rfl, (by show 1 ≤ sizeLine; decide), fun tn htn => ?_⟩
            have sN := Same.new (o := .tup [vN i]) htn
            have s12 := (s1.trans s2).trans sN
            refine ⟨_, rfl, tn, t, [vN i], _, rfl, rfl, SqT.of upd_same, SqT.of (sN _ _ ht), (by show 4 ≤ sizeLine; decide), (fun z => by cases z), (fun _ z => by cases z), fun _ _ tp htp => ?_⟩
            exact qs (i, p) tp _ (s12.trans (Same.new htp)) (some_hit u0 (range_get2 hi) (by rw [et, hp]; rfl)) (s12.none htp) upd_same
    · rintro σ H' ⟨⟨v2, v3, v4, rfl⟩, s', u'⟩
      rw [List.length_map, ← List.length_map (f := Rl.d), List.take_of_length_le (by rw [List.length_range]; exact Nat.le_refl _)] at u'
      exact qn H' s' u'
end
end Own

namespace Own
open PySem L2
section
variable {P : Program} {w : World} {K : PySem.W.Frag} {mg : Str → Option Value} {base : Heap}
seal PySem.wpAny
noncomputable abbrev sWithN : Stmt := top 23
theorem scWithN : FnScope ["row", "column", "number"] ["row", "column", "number"] (defScope sWithN) := ⟨rfl, rfl, rfl, by decide +kernel, rfl, by decide +kernel, by decide +kernel⟩
theorem ok_withn {f : Addr} {fd : FuncData} (F : Fun K "with_number" "with_number" sWithN f fd) : FnOk P w K mg base CX0 1 f fd ["row", "column", "number"] (spWithN K) := by
  refine F.ok scWithN (fun vs H Q E h => ?_) (fun cdv A outer s' H vs Q E hr h => ?_)
  · obtain ⟨a, r, c, v, rfl, _⟩ := h
    rfl
  · obtain ⟨a, r, c, v, rfl, ha, hc, lr, q⟩ := h
    refine ⟨_, (pss_one (ps_ret (pe_op (op_catA (K := K) rfl) (pe_op (op_catA (K := K) rfl) (pe_slice sl_tup (pv 0) po_none (po_some (pv 1))) (pe_tup (pa_cons (pv 2) pa_nil))) (pe_slice sl_tup (pv 0) (po_some (pe_op op_addN (pv 1) pe_int)) po_none)))), ?_⟩
    have lrm : (r.map V.int).length = r.length := List.length_map ..
    refine ⟨_, rfl, _, rfl, (c : Int), rfl, a, _, rfl, SqT.of ha, ?_, fun p1 hp1 => ?_⟩
    · rintro ⟨_, h2⟩
      rw [HT.sIx_nat, lrm] at h2
      omega
    rw [cut_take]
    have s1 := Same.new (o := .tup ((r.map V.int).take c)) hp1
    have h1 : (upd H p1 (.tup ((r.map V.int).take c))) p1 = some (.tup ((r.map V.int).take c)) := upd_same
    generalize upd H p1 (.tup ((r.map V.int).take c)) = H1 at s1 h1
    refine ⟨_, rfl, (by show 1 ≤ sizeLine; decide), fun p2 hp2 => ?_⟩
    have s2 := Same.new (o := .tup [V.int v]) hp2
    have h2 : (upd H1 p2 (.tup [V.int v])) p2 = some (.tup [V.int v]) := upd_same
    have h12 := s2 _ _ h1
    generalize upd H1 p2 (.tup [V.int v]) = H2 at s2 h2 h12
    have ltk : ((r.map V.int).take c).length = c := by rw [List.length_take, lrm]; omega
    have s02 := s1.trans s2
    have eset : (r.map V.int).take c ++ [V.int v] ++ (r.map V.int).drop (c + 1) = (r.set c v).map V.int := by
      rw [List.map_set, List.set_eq_take_append_cons_drop, if_pos (by rw [lrm]; exact hc), List.append_assoc]; rfl
    refine ⟨p1, p2, _, _, rfl, rfl, SqT.of h12, SqT.of h2, small7 (by rw [ltk]; show c + 1 ≤ 20; omega), fun z => ?_, fun _ z => (by cases z), fun _ _ p3 hp3 => ?_⟩
    · have h3 : H2 p2 = some (.tup ((r.map V.int).take c ++ [V.int v])) := by rw [z]; exact h2
      refine ⟨_, rfl, _, rfl, c, 1, rfl, rfl, ((c + 1 : Nat) : Int), rfl, a, _, rfl, SqT.of (s02 _ _ ha), ?_, fun p4 hp4 => ?_⟩
      · rintro ⟨h2, _⟩
        rw [HT.sIx_nat, lrm] at h2
        omega
      rw [cut_drop]
      have s4 := Same.new (o := .tup ((r.map V.int).drop (c + 1))) hp4
      refine ⟨p2, p4, _, _, rfl, rfl, SqT.of (s4 _ _ h3), SqT.of upd_same, small7 (by rw [List.length_append, ltk, List.length_drop, lrm]; show c + 1 + _ ≤ 20; omega), (fun z => absurd z (by simp)), fun _ z => ?_, fun _ _ p5 hp5 => ?_⟩
      · refine q p2 _ (s02.trans s4) ?_
        rw [s4 _ _ h3, ← eset, z, List.append_nil]
      · exact q p5 _ ((s02.trans s4).trans (Same.new hp5)) (by rw [upd_same, eset])
    · have s03 := s02.trans (Same.new (o := .tup ((r.map V.int).take c ++ [V.int v])) hp3)
      have h3 : (upd H2 p3 (.tup ((r.map V.int).take c ++ [V.int v]))) p3 = some (.tup ((r.map V.int).take c ++ [V.int v])) := upd_same
      generalize upd H2 p3 (.tup ((r.map V.int).take c ++ [V.int v])) = H3 at s03 h3
      refine ⟨_, rfl, _, rfl, c, 1, rfl, rfl, ((c + 1 : Nat) : Int), rfl, a, _, rfl, SqT.of (s03 _ _ ha), ?_, fun p4 hp4 => ?_⟩
      · rintro ⟨h2, _⟩
        rw [HT.sIx_nat, lrm] at h2
        omega
      rw [cut_drop]
      have s4 := Same.new (o := .tup ((r.map V.int).drop (c + 1))) hp4
      refine ⟨p3, p4, _, _, rfl, rfl, SqT.of (s4 _ _ h3), SqT.of upd_same, small7 (by rw [List.length_append, ltk, List.length_drop, lrm]; show c + 1 + _ ≤ 20; omega), (fun z => absurd z (by simp)), fun _ z => ?_, fun _ _ p5 hp5 => ?_⟩
      · refine q p3 _ (s03.trans s4) ?_
        rw [s4 _ _ h3, ← eset, z, List.append_nil]
      · exact q p5 _ ((s03.trans s4).trans (Same.new hp5)) (by rw [upd_same, eset])
noncomputable abbrev sMade : Stmt := top 24
theorem scMade : FnScope ["rows", "first", "second", "column", "lesser", "greater"] ["rows", "first", "second", "column"] (defScope sMade) := ⟨rfl, rfl, rfl, by decide +kernel, rfl, by decide +kernel, by decide +kernel⟩
theorem ok_made {f fWN : Addr} {fd fdWN : FuncData} (F : Fun K "made_alike" "made_alike" sMade f fd) (GWN : FnOk P w K mg base CX0 1 fWN fdWN ["row", "column", "number"] (spWithN K)) (mWN : mg "with_number" = some (.ref fWN)) (kWN : PySem.W.keepIn K (.ref fWN) = true) (bWN : Binds K fdWN ["row", "column", "number"] []) (zmin : mg "min" = none) (zmax : mg "max" = none) : FnOk P w K mg base CX0 2 f fd ["rows", "first", "second", "column"] (spMade K) := by
  refine F.ok scMade (fun vs H Q E h => ?_) (fun cdv A outer s' H vs Q E hr h => ?_)
  · obtain ⟨tl, ts, T, m, i, j, c, ri, rj, rfl, _⟩ := h
    rfl
  · obtain ⟨tl, ts, T, m, i, j, c, ri, rj, rfl, htl, hT, m7, lT, eri, erj, hc, q⟩ := h
    have nd := scMade.nd
    have hr1 : Room 1 _ := hr.mono (by decide)
    have hi : i < ts.length := by rw [hT.len]; exact (List.getElem?_eq_some_iff.mp eri).1
    have hj : j < ts.length := by rw [hT.len]; exact (List.getElem?_eq_some_iff.mp erj).1
    obtain ⟨ti, eti⟩ : ∃ t, ts[i]? = some t := ⟨_, List.getElem?_eq_getElem hi⟩
    obtain ⟨tj, etj⟩ : ∃ t, ts[j]? = some t := ⟨_, List.getElem?_eq_getElem hj⟩
    have eiv : (ts.map V.ref)[i]? = some (V.ref ti) := by rw [List.getElem?_map, eti]; rfl
    have ejv : (ts.map V.ref)[j]? = some (V.ref tj) := by rw [List.getElem?_map, etj]; rfl
    have hi' := hT.at_ i ti ri eti eri
    have hj' := hT.at_ j tj rj etj erj
    have hi := hi'
    have hj := hj'
    have li := hT.rl ri (List.mem_of_getElem? eri)
    have lj := hT.rl rj (List.mem_of_getElem? erj)
    have ltm : (ts.map V.ref).length = T.length := by rw [List.length_map]; exact hT.len
    refine ⟨_, (pss_cons (ps_set (i := 4) nd rfl (Or.inr rfl) (pe_callB (call_minI rfl) (by rfl) zmin PyProof.Rows.boot_min (pa_cons (pe_ix (ix_tupK (K := K) rfl) (pe_ix (ix_listK (K := K) rfl) (pv 0) (pv 1) (fun _ _ => rfl)) (pv 3) (fun _ _ => rfl)) (pa_cons (pe_ix (ix_tupK (K := K) rfl) (pe_ix (ix_listK (K := K) rfl) (pv 0) (pv 2) (fun _ _ => rfl)) (pv 3) (fun _ _ => rfl)) pa_nil))))
      (pss_cons (ps_set (i := 5) nd rfl (Or.inr rfl) (pe_callB (call_maxN rfl) (by rfl) zmax PyProof.Rows.boot_max (pa_cons (pe_ix (ix_tupK (K := K) rfl) (pe_ix (ix_listK (K := K) rfl) (pv 0) (pv 1) (fun _ _ => rfl)) (pv 3) (fun _ _ => rfl)) (pa_cons (pe_ix (ix_tupK (K := K) rfl) (pe_ix (ix_listK (K := K) rfl) (pv 0) (pv 2) (fun _ _ => rfl)) (pv 3) (fun _ _ => rfl)) pa_nil))))
      (pss_one (ps_ret (pe_comp (xs := ["row"]) (cs ["rows", "first", "second", "column", "lesser", "greater"] (defScope sMade) rfl rfl (by decide +kernel)) rfl (pi_listK (K := K) rfl (pv 0)) (fun _ _ _ => pg_name (i := 0) (show (["row", "rows", "first", "second", "column", "lesser", "greater"] : List Str).Nodup by decide +kernel) rfl (Or.inl rfl)) (fun _ _ _ => pts_nil) (fun _ _ _ => (pe_ifExp (pt_cmpR op_eqI (pe_ix (ix_tupK (K := K) rfl) (pv 0) (pv 4) (fun _ _ => rfl)) (pv 6) (nomark _)) (pe_call GWN hr1 rfl mWN kWN bWN .nil pass0 (pa_cons (pv 0) (pa_cons (pv 4) (pa_cons (pv 5) pa_nil)))) (pv 0)))))))), ?_⟩
    refine ⟨_, rfl, _, rfl, tl, _, _, _, rfl, rfl, htl, atI_nat eiv, _, rfl, ti, _, _, _, rfl, rfl, SqT.of hi, atI_nat (getD_int (by omega)), _, rfl, _, rfl, tl, _, _, _, rfl, rfl, htl, atI_nat ejv, _, rfl, tj, _, _, _, rfl, rfl, SqT.of hj, atI_nat (getD_int (by omega)), ri.getD c 0, rj.getD c 0, rfl, ?_⟩
    refine ⟨_, rfl, _, rfl, tl, _, _, _, rfl, rfl, htl, atI_nat eiv, _, rfl, ti, _, _, _, rfl, rfl, SqT.of hi, atI_nat (getD_int (by omega)), _, rfl, _, rfl, tl, _, _, _, rfl, rfl, htl, atI_nat ejv, _, rfl, tj, _, _, _, rfl, rfl, SqT.of hj, atI_nat (getD_int (by omega)), ri.getD c 0, rj.getD c 0, rfl, ?_⟩
    refine ⟨_, rfl, tl, rfl, ⟨_, htl⟩, lc_list (K := K) (xs := ts.map V.ref) (fun k acc H' => ∃ ts' : List Addr, acc = ts'.map V.ref ∧ Same H H' ∧ TB H' m ts' ((T.take k).map (evenRow c (ri.getD c 0) (rj.getD c 0)))) (by rw [ltm]; omega) ⟨[], rfl, Same.refl _, TB.nil _ _⟩ (fun k acc H' hk h => ?_) (fun k v acc H' hv h => ?_) (fun acc H' h => ?_)⟩
    · obtain ⟨ts', rfl, s', h'⟩ := h
      refine ⟨s'.seq htl, ?_⟩
      rw [List.length_map, h'.len, List.length_map]
      exact List.length_take_le _ _
    · obtain ⟨ts', rfl, s', h'⟩ := h
      rw [List.getElem?_map] at hv
      cases et : ts[k]? with
      | none => rw [et] at hv; cases hv
      | some t =>
        rw [et] at hv
        obtain rfl := (Option.some.inj hv).symm
        obtain ⟨r, er, hrt, lr⟩ := hT.get et
        have etk : (T.take (k + 1)).map (evenRow c (ri.getD c 0) (rj.getD c 0)) = (T.take k).map (evenRow c (ri.getD c 0) (rj.getD c 0)) ++ [(evenRow c (ri.getD c 0) (rj.getD c 0)) r] := by rw [List.take_succ, er, List.map_append]; rfl
        refine ⟨rfl, _, rfl, _, rfl, t, _, _, _, rfl, rfl, SqT.of (s' _ _ hrt), atI_nat (getD_int (by omega)), _, rfl, r.getD c 0, max (ri.getD c 0) (rj.getD c 0), rfl, rfl, _, rfl, ite2 (fun hb => ?_) (fun hb => ?_)⟩
        · have ev : (evenRow c (ri.getD c 0) (rj.getD c 0)) r = r.set c (min (ri.getD c 0) (rj.getD c 0)) := by unfold evenRow; rw [if_pos (of_decide_eq_true hb)]
          refine ⟨_, rfl, _, rfl, _, rfl, t, r, c, min (ri.getD c 0) (rj.getD c 0), rfl, s' _ _ hrt, by omega, by omega, fun t' H2 s2 ht' => ?_⟩
          refine ⟨ts' ++ [t'], by rw [List.map_append]; rfl, s'.trans s2, ?_⟩
          rw [etk]
          exact (h'.same s2).snoc (by rw [ev]; exact ht') (by rw [ev, List.length_set]; exact lr)
        · have ev : (evenRow c (ri.getD c 0) (rj.getD c 0)) r = r := by unfold evenRow; rw [if_neg fun z => hb (decide_eq_true z)]
          refine ⟨_, rfl, ts' ++ [t], by rw [List.map_append]; rfl, s', ?_⟩
          rw [etk]
          exact h'.snoc (by rw [ev]; exact s' _ _ hrt) (by rw [ev]; exact lr)
    · obtain ⟨ts', rfl, s', h'⟩ := h
      rw [ltm, List.take_length] at h'
      intro np hnp
      exact q np ts' _ (s'.trans (Same.new hnp)) (s'.none hnp) upd_same (h'.same (Same.new hnp))
end
end Own

namespace Own
open PySem L2
section
variable {P : Program} {w : World} {K : PySem.W.Frag} {mg : Str → Option Value} {base : Heap}
seal PySem.wpAny
noncomputable abbrev sCheck : Stmt := top 18
theorem scCheck : FnScope ["many", "parts", "together", "part"] ["many", "parts"] (defScope sCheck) := ⟨rfl, rfl, rfl, by decide +kernel, rfl, by decide +kernel, by decide +kernel⟩
theorem ok_check {f fIW fAL : Addr} {fd fdIW fdAL : FuncData} {tkMP : PySem.Tok} (F : Fun K "check_parts" "check_parts" sCheck f fd) (GIW : FnOk P w K mg base CX0 1 fIW fdIW ["one", "other"] spWithin) (mIW : mg "is_within" = some (.ref fIW)) (kIW : PySem.W.keepIn K (.ref fIW) = true) (bIW : Binds K fdIW ["one", "other"] []) (GAL : FnOk P w K mg base CX0 1 fAL fdAL ["many"] spAllOf) (mAL : mg "all_of" = some (.ref fAL)) (kAL : PySem.W.keepIn K (.ref fAL) = true) (bAL : Binds K fdAL ["many"] []) (mMP : mg "MOST_PARTS" = some (.int 10 tkMP)) (zlen : mg "len" = none) : FnOk P w K mg base CX0 2 f fd ["many", "parts"] (spCheck K) := by
  refine F.ok scCheck (fun vs H Q E h => ?_) (fun cdv A outer s' H vs Q E hr h => ?_)
  · obtain ⟨m, pl, ps, rfl, _⟩ := h
    rfl
  · obtain ⟨m, pl, ps, rfl, m7, hpl, lp, hf, q⟩ := h
    have nd := scCheck.nd
    have hr1 : Room 1 _ := hr.mono (by decide)
    have lpm : (ps.map vN).length = ps.length := List.length_map ..
    refine ⟨_, (pss_cons (ps_if (pt_cmpR op_gtN (pe_callB (call_lenK (K := K) rfl) (by rfl) zlen PySem.boot_len (pa_cons (pv 1) pa_nil)) (pe_glob (v := vN 10) (by rfl) mMP ⟨_, rfl⟩) (nomark _)) (pss_one ps_never) pss_nil)
      (pss_cons (ps_set (i := 2) nd rfl (Or.inl rfl) pe_int)
      (pss_cons (ps_for PassesOwn.never rfl (pi_listK (K := K) rfl (pv 1)) (pg_name (i := 3) nd rfl (Or.inl rfl)) (pss_one (ps_set (i := 2) nd rfl (Or.inl rfl) (pe_op op_orN (pv 2) (pv 3)))))
      (pss_one (ps_if (pt_not (pt_val (pe_call GIW hr1 rfl mIW kIW bIW .nil pass0 (pa_cons (pe_call GAL hr1 rfl mAL kAL bAL .nil pass0 (pa_cons (pv 0) pa_nil)) (pa_cons (pv 2) pa_nil))))) (pss_one ps_never) pss_nil))))), ?_⟩
    refine ⟨_, rfl, pl, _, rfl, .inl hpl, (ps.map vN).length, 10, rfl, rfl, _, rfl, ?_⟩
    rw [lpm, decide_eq_false (show ¬ 10 < ps.length by omega)]
    refine iteF ?_
    refine ⟨_, rfl, pl, rfl, ⟨_, hpl⟩, for_list (K := K) (xs := ps.map vN) (fun i σ H' => (∃ v3, σ = [some (vN m), some (.ref pl), some (vN ((ps.take i).foldl (· ||| ·) 0)), v3]) ∧ H' = H) ⟨⟨_, rfl⟩, rfl⟩ (fun i σ H' _ h => by rw [h.2]; exact hpl) ?_ ?_⟩
    · rintro i v σ H1 hv ⟨⟨v3, rfl⟩, rfl⟩
      rw [List.getElem?_map] at hv
      cases ep : ps[i]? with
      | none => rw [ep] at hv; cases hv
      | some p =>
        rw [ep] at hv
        obtain rfl := (Option.some.inj hv).symm
        refine ⟨_, rfl, _, rfl, (ps.take i).foldl (· ||| ·) 0, p, rfl, rfl, ?_⟩
        exact ⟨⟨some (vN p), by rw [List.take_succ, ep, List.foldl_append]; rfl⟩, rfl⟩
    · rintro σ H1 ⟨⟨v3, rfl⟩, rfl⟩
      rw [lpm, List.take_length, hf]
      refine ⟨_, rfl, m, rfl, by omega, _, rfl, 2 ^ m - 1, 2 ^ m - 1, rfl, _, rfl, ?_⟩
      rw [Nat.and_self, decide_eq_true rfl]
      refine iteF ?_
      exact q H1 (Same.refl _)
noncomputable abbrev sBegunT : Stmt := top 19
theorem scBegunT : FnScope ["many", "parts"] ["many", "parts"] (defScope sBegunT) := ⟨rfl, rfl, rfl, by decide +kernel, rfl, by decide +kernel, by decide +kernel⟩
theorem ok_begunt {f fM fN : Addr} {fd fdM fdN : FuncData} (F : Fun K "begun_table" "begun_table" sBegunT f fd) (GM : FnOk P w K mg base CX0 2 fM fdM ["one", "other", "some"] (spMixed K)) (mM : mg "mixed" = some (.ref fM)) (kM : PySem.W.keepIn K (.ref fM) = true) (bM : Binds K fdM ["one", "other", "some"] []) (GN : FnOk P w K mg base CX0 1 fN fdN ["many"] spNoughts) (mN : mg "noughts" = some (.ref fN)) (kN : PySem.W.keepIn K (.ref fN) = true) (bN : Binds K fdN ["many"] []) (zenumerate : mg "enumerate" = none) : FnOk P w K mg base CX0 3 f fd ["many", "parts"] (spBegunT K) := by
  refine F.ok scBegunT (fun vs H Q E h => ?_) (fun cdv A outer s' H vs Q E hr h => ?_)
  · obtain ⟨m, pl, ps, rfl, _⟩ := h
    rfl
  · obtain ⟨m, pl, ps, rfl, m1, m7, hpl, lp, q⟩ := h
    have hr1 : Room 1 _ := hr.mono (by decide)
    have hr2 : Room 2 _ := hr.mono (by decide)
    have lpm : (ps.map vN).length = ps.length := List.length_map ..
    refine ⟨_, (pss_one (ps_ret (pe_comp (xs := ["number", "part"]) (cs ["many", "parts"] (defScope sBegunT) rfl rfl (by decide +kernel)) rfl (pi_enumS (K := K) rfl rfl zenumerate (pa_cons (pv 1) pa_nil) (pk_cons pe_int pk_nil)) (fun _ _ _ => pg_tupK (K := K) (n := 2) rfl rfl (pgs_cons (pg_name (i := 0) (show (["number", "part", "many", "parts"] : List Str).Nodup by decide +kernel) rfl (Or.inl rfl)) (pgs_cons (pg_name (i := 1) (show (["number", "part", "many", "parts"] : List Str).Nodup by decide +kernel) rfl (Or.inl rfl)) pgs_nil)) rfl rfl) (fun _ _ _ => pts_nil) (fun _ _ _ => (pe_call GM hr2 rfl mM kM bM .nil pass0 (pa_cons (pe_call GN hr1 rfl mN kN bN .nil pass0 (pa_cons (pv 2) pa_nil)) (pa_cons (pe_op op_repT (pe_tup (pa_cons (pv 0) pa_nil)) (pv 2)) (pa_cons (pv 1) pa_nil)))))))), ?_⟩
    refine ⟨_, rfl, pl, _, 1, rfl, rfl, by omega, hpl, lc_enumS (K := K) (xs := ps.map vN) (n := 2) (k := 1) (fun i acc H' => ∃ ts : List Addr, acc = ts.map V.ref ∧ Same H H' ∧ TB H' m ts (begK m ps i)) (by omega) ⟨[], rfl, Same.refl _, TB.nil _ _⟩ (fun i acc H' hi h => ?_) (fun i v acc H' t hv h ht => ?_) (fun acc H' h => ?_)⟩
    · obtain ⟨ts, rfl, s1, hT⟩ := h
      refine ⟨s1.seq hpl, ?_⟩
      rw [List.length_map, hT.len]
      unfold begK
      rw [List.length_map, List.length_range]
      exact Nat.le_refl _
    · obtain ⟨ts, rfl, s1, hT⟩ := h
      rw [List.getElem?_map] at hv
      cases ep : ps[i]? with
      | none => rw [ep] at hv; cases hv
      | some p =>
        rw [ep] at hv
        obtain rfl := (Option.some.inj hv).symm
        have epd : ps.getD i 0 = p := by rw [List.getD_eq_getElem?_getD, ep]; rfl
        have bk : begK m ps (i + 1) = begK m ps i ++ [begRow m i p] := by
          unfold begK
          rw [List.range_succ, List.map_append, ← epd]; rfl
        have sT := Same.new (o := .tup [vN (i + 1), vN p]) ht
        refine ⟨t, _, rfl, SqT.of upd_same, rfl, _, _, rfl, _, _, rfl, rfl, rfl, ?_⟩
        generalize upd H' t (.tup [vN (i + 1), vN p]) = H2 at sT
        refine ⟨_, rfl, m, rfl, m1, by omega, fun t1 H3 s3 ht1 ht1' => ?_⟩
        refine ⟨_, rfl, (by show 1 ≤ sizeLine; decide), fun t2 ht2 => ?_⟩
        have s4 := Same.new (o := .tup [vN (i + 1)]) ht2
        have h24 : (upd H3 t2 (.tup [vN (i + 1)])) t2 = some (.tup [vN (i + 1)]) := upd_same
        have h14 := s4 _ _ ht1'
        have s24 := (sT.trans s3).trans s4
        generalize upd H3 t2 (.tup [vN (i + 1)]) = H4 at s4 h24 h14 s24
        refine ⟨_, rfl, t2, vN (i + 1), m, rfl, rfl, h24, m1, by omega, fun e => ?_, fun e t3 ht3 => ?_⟩
        · have h24' : H4 t2 = some (.tup ((List.replicate m ((i + 1 : Nat) : Int)).map V.int)) := by rw [e]; exact h24
          refine ⟨_, rfl, t1, t2, List.replicate m 0, List.replicate m ((i + 1 : Nat) : Int), p, rfl, SqT.of h14, SqT.of h24', by rw [List.length_replicate, List.length_replicate], by rw [List.length_replicate]; omega, fun tr H5 s5 htr0 htr => ?_⟩
          exact ⟨ts ++ [tr], by rw [List.map_append]; rfl, s1.trans (s24.trans s5), by rw [bk]; exact (hT.same (s24.trans s5)).snoc htr (begRow_len ..)⟩
        · have s5' := Same.new (o := .tup (List.replicate m (vN (i + 1)))) ht3
          have h35 : (upd H4 t3 (.tup (List.replicate m (vN (i + 1))))) t3 = some (.tup ((List.replicate m ((i + 1 : Nat) : Int)).map V.int)) := by rw [upd_same, List.map_replicate]; rfl
          have s25 := s24.trans s5'
          have h15 := s5' _ _ h14
          generalize upd H4 t3 (.tup (List.replicate m (vN (i + 1)))) = H5 at h35 s25 h15
          refine ⟨_, rfl, t1, t3, List.replicate m 0, List.replicate m ((i + 1 : Nat) : Int), p, rfl, SqT.of h15, SqT.of h35, by rw [List.length_replicate, List.length_replicate], by rw [List.length_replicate]; omega, fun tr H6 s6 htr0 htr => ?_⟩
          exact ⟨ts ++ [tr], by rw [List.map_append]; rfl, s1.trans (s25.trans s6), by rw [bk]; exact (hT.same (s25.trans s6)).snoc htr (begRow_len ..)⟩
    · obtain ⟨ts, rfl, s1, hT⟩ := h
      rw [lpm] at hT
      intro tl htl
      exact q tl ts _ (s1.trans (Same.new htl)) (s1.none htl) upd_same (hT.same (Same.new htl))
theorem ok_checkX {f fIW fAL CCN CTM : Addr} {fd fdIW fdAL : FuncData} {tkMP : PySem.Tok} (F : Fun K "check_parts" "check_parts" sCheck f fd) (GIW : FnOk P w K mg base CX0 1 fIW fdIW ["one", "other"] spWithin) (mIW : mg "is_within" = some (.ref fIW)) (kIW : PySem.W.keepIn K (.ref fIW) = true) (bIW : Binds K fdIW ["one", "other"] []) (GAL : FnOk P w K mg base CX0 1 fAL fdAL ["many"] spAllOf) (mAL : mg "all_of" = some (.ref fAL)) (kAL : PySem.W.keepIn K (.ref fAL) = true) (bAL : Binds K fdAL ["many"] []) (OTM : Exc K "TooMany" CTM) (OCN : Exc K "NoCut" CCN) (mMP : mg "MOST_PARTS" = some (.int 10 tkMP)) (zlen : mg "len" = none) : FnOk P w K mg base (CX1 P w) 2 f fd ["many", "parts"] (spCheckX K CCN CTM) := by
  refine F.ok1 scCheck (fun vs H Q E h => ?_) (fun cdv A outer s' H vs Q E hr h => ?_)
  · obtain ⟨m, b, pl, ps, rfl, _⟩ := h
    rfl
  · obtain ⟨m, b, pl, ps, rfl, m7, hpl, lp, bad, qe⟩ := h
    have nd := scCheck.nd
    have hr1 : Room 1 _ := hr.mono (by decide)
    have lpm : (ps.map vN).length = ps.length := List.length_map ..
    refine ⟨_, (pss_cons (ps_if (pt_cmpR op_gtN (pe_callB (call_lenK (K := K) rfl) (by rfl) zlen PySem.boot_len (pa_cons (pv 1) pa_nil)) (pe_glob (v := vN 10) (by rfl) mMP ⟨_, rfl⟩) (nomark _)) (pss_one (ps_raise (EX := E) OTM (by rfl) rfl (pa_cons (pe_fs3 (pe_glob (v := vN 10) (by rfl) mMP ⟨_, rfl⟩)) pa_nil) (fun _ _ _ _ _ _ _ I hx hE => raise_out I hx hE))) pss_nil)
      (pss_cons (ps_set (i := 2) nd rfl (Or.inl rfl) pe_int)
      (pss_cons (PS.nox (ps_for PassesOwn.never rfl (pi_listK (K := K) rfl (pv 1)) (pg_name (i := 3) nd rfl (Or.inl rfl)) (pss_one (ps_set (i := 2) nd rfl (Or.inl rfl) (pe_op op_orN (pv 2) (pv 3))))))
      (pss_one (ps_if (pt_not (pt_val (pe_call GIW hr1 rfl mIW kIW bIW .nil pass0 (pa_cons (pe_call GAL hr1 rfl mAL kAL bAL .nil pass0 (pa_cons (pv 0) pa_nil)) (pa_cons (pv 2) pa_nil))))) (pss_one (ps_raise (EX := E) OCN (by rfl) rfl (pa_cons pe_str pa_nil) (fun _ _ _ _ _ _ _ I hx hE => raise_out I hx hE))) pss_nil))))), ?_⟩
    refine ⟨_, rfl, pl, _, rfl, .inl hpl, (ps.map vN).length, 10, rfl, rfl, _, rfl, ?_⟩
    rw [lpm]
    rcases bad with ⟨rfl, hb⟩ | ⟨rfl, hb, hf⟩
    · rw [decide_eq_true hb]
      refine iteT ?_
      exact ⟨_, rfl, by decide, fun x => ⟨(by show 1 ≤ sizeLine; decide), qe⟩⟩
    rw [decide_eq_false (show ¬ 10 < ps.length by omega)]
    refine iteF ?_
    refine ⟨_, rfl, pl, rfl, ⟨_, hpl⟩, for_list (K := K) (xs := ps.map vN) (fun i σ H' => (∃ v3, σ = [some (vN m), some (.ref pl), some (vN ((ps.take i).foldl (· ||| ·) 0)), v3]) ∧ H' = H) ⟨⟨_, rfl⟩, rfl⟩ (fun i σ H' _ h => by rw [h.2]; exact hpl) ?_ ?_⟩
    · rintro i v σ H1 hv ⟨⟨v3, rfl⟩, rfl⟩
      rw [List.getElem?_map] at hv
      cases ep : ps[i]? with
      | none => rw [ep] at hv; cases hv
      | some p =>
        rw [ep] at hv
        obtain rfl := (Option.some.inj hv).symm
        refine ⟨_, rfl, _, rfl, (ps.take i).foldl (· ||| ·) 0, p, rfl, rfl, ?_⟩
        exact ⟨⟨some (vN p), by rw [List.take_succ, ep, List.foldl_append]; rfl⟩, rfl⟩
    · rintro σ H1 ⟨⟨v3, rfl⟩, rfl⟩
      rw [lpm, List.take_length]
      refine ⟨_, rfl, m, rfl, by omega, _, rfl, 2 ^ m - 1, ps.foldl (· ||| ·) 0, rfl, _, rfl, ?_⟩
      rw [decide_eq_false (not_full hf)]
      refine iteT ?_
      exact ⟨(by show 1 ≤ sizeLine; decide), qe⟩
end
end Own

namespace Own
open PySem L2
section
variable {P : Program} {w : World} {K : PySem.W.Frag} {mg : Str → Option Value} {base : Heap}
seal PySem.wpAny
noncomputable abbrev sFilled : Stmt := top 25
theorem scFilled : FnScope ["many", "rules", "parts", "rows", "steps", "step"] ["many", "rules", "parts"] (defScope sFilled) := ⟨rfl, rfl, rfl, by decide +kernel, rfl, by decide +kernel, by decide +kernel⟩
theorem ok_filled {f fCK fBT fFS fMD : Addr} {fd fdCK fdBT fdFS fdMD : FuncData} (F : Fun K "filled" "filled" sFilled f fd) (GCK : FnOk P w K mg base CX0 2 fCK fdCK ["many", "parts"] (spCheck K)) (mCK : mg "check_parts" = some (.ref fCK)) (kCK : PySem.W.keepIn K (.ref fCK) = true) (bCK : Binds K fdCK ["many", "parts"] []) (GBT : FnOk P w K mg base CX0 3 fBT fdBT ["many", "parts"] (spBegunT K)) (mBT : mg "begun_table" = some (.ref fBT)) (kBT : PySem.W.keepIn K (.ref fBT) = true) (bBT : Binds K fdBT ["many", "parts"] []) (GFS : FnOk P w K mg base CX0 5 fFS fdFS ["rules", "rows"] (spFirstStep K)) (mFS : mg "first_step" = some (.ref fFS)) (kFS : PySem.W.keepIn K (.ref fFS) = true) (bFS : Binds K fdFS ["rules", "rows"] []) (GMD : FnOk P w K mg base CX0 2 fMD fdMD ["rows", "first", "second", "column"] (spMade K)) (mMD : mg "made_alike" = some (.ref fMD)) (kMD : PySem.W.keepIn K (.ref fMD) = true) (bMD : Binds K fdMD ["rows", "first", "second", "column"] []) : FnOk P w K mg base CX0 6 f fd ["many", "rules", "parts"] (spFilled K) := by
  refine F.ok scFilled (fun vs H Q E h => ?_) (fun cdv A outer s' H vs Q E hr h => ?_)
  · obtain ⟨m, rl, pl, rs, ps, rfl, _⟩ := h
    rfl
  · obtain ⟨m, rl, pl, rs, ps, rfl, m1, m7, hrl, hRs, lr, hpl, lp, hf, q⟩ := h
    have nd := scFilled.nd
    have hr2 : Room 2 _ := hr.mono (by decide)
    have hr3 : Room 3 _ := hr.mono (by decide)
    have hr5 : Room 5 _ := hr.mono (by decide)
    have hrules : Rules m (rs.map Rl.d) := fun r hr' => by
      obtain ⟨r', h1, rfl⟩ := List.mem_map.mp hr'
      exact (hRs r' h1).2
    refine ⟨_, (pss_cons (ps_expr (pe_call GCK hr2 rfl mCK kCK bCK .nil pass0 (pa_cons (pv 0) (pa_cons (pv 2) pa_nil)))) (pss_cons (ps_set (i := 3) nd rfl (Or.inl rfl) (pe_call GBT hr3 rfl mBT kBT bBT .nil pass0 (pa_cons (pv 0) (pa_cons (pv 2) pa_nil)))) (pss_cons (ps_set (i := 4) nd rfl (Or.inl rfl) (pe_lst pa_nil)) (pss_cut (fun σ H' => ∃ n, FInv H m rl pl rs ps n σ H') (ps_set (i := 5) nd rfl (Or.inl rfl) (pe_call GFS hr5 rfl mFS kFS bFS .nil pass0 (pa_cons (pv 1) (pa_cons (pv 3) pa_nil)))) (pss_cons (ps_while PassesOwn.never (pt_cmpR op_notN (pv 5) pe_non (nomark _)) (pss_cons (ps_expr (pe_bm PySem.F.plainAttrs_list PySem.F.slot_list_append PySem.F.type_list_append mt_append (pv 4) (pa_cons (pv 5) pa_nil)))
      (pss_cons (ps_set (i := 3) nd rfl (Or.inl rfl) (pe_call GMD hr2 rfl mMD kMD bMD .nil pass0 (pa_cons (pv 3) (pa_cons (pe_ix (ix_tupK (K := K) rfl) (pv 5) pe_int (fun _ _ => rfl)) (pa_cons (pe_ix (ix_tupK (K := K) rfl) (pv 5) pe_int (fun _ _ => rfl)) (pa_cons (pe_ix (ix_tupK (K := K) rfl) (pv 5) pe_int (fun _ _ => rfl)) pa_nil))))))
      (pss_one (ps_set (i := 5) nd rfl (Or.inl rfl) (pe_call GFS hr5 rfl mFS kFS bFS .nil pass0 (pa_cons (pv 1) (pa_cons (pv 3) pa_nil))))))))
      (pss_one (ps_ret (pe_tup (pa_cons (pv 3) (pa_cons (pv 4) pa_nil)))))))))), ?_⟩
    refine ⟨_, rfl, _, rfl, m, pl, ps, rfl, m7, hpl, lp, hf, fun H1 s1 => ?_⟩
    refine ⟨_, rfl, _, rfl, m, pl, ps, rfl, m1, m7, s1.seq hpl, lp, fun tl ts H2 s2 htl0 htl hT => ?_⟩
    refine ⟨Nat.zero_le _, fun sl hsl => ?_⟩
    have s3 := Same.new (o := .lst []) hsl
    have hsl3 : (upd H2 sl (.lst [])) sl = some (.lst []) := upd_same
    have htl3 := s3 _ _ htl
    have hT3 := hT.same s3
    have ntl : tl ≠ sl := ne_of_none htl hsl
    have s03 := (s1.trans s2).trans s3
    have hsl0 := (s1.trans s2).none hsl
    have htlH := s1.none htl0
    generalize upd H2 sl (.lst []) = H3 at s3 hsl3 htl3 hT3 s03
    have A0 := begT_at (m := m) (rs := rs.map Rl.d) lp m7
    have lT : (begT m ps).length ≤ 20 := by unfold begT begK; rw [List.length_map, List.length_range]; omega
    refine ⟨⟨_, rfl, _, rfl, rl, tl, rs, ts, begT m ps, m, rfl, s03.seq hrl, hRs.same s03, lr, SqL.of htl3, hT3, m7, lT, fun H4 s4 hn => ?_, fun p t H4 s4 hp ht0 ht => ?_⟩, ?_⟩
    · exact ⟨_, begT m ps, ts, tl, sl, [], .non, rfl, A0, s03.trans s4, htlH, s4 _ _ htl3, hT3.same s4, hsl0, ntl, s4 _ _ hsl3, (fun w h => absurd h List.not_mem_nil), .inl ⟨hn, rfl⟩⟩
    · exact ⟨_, begT m ps, ts, tl, sl, [], .ref t, rfl, A0, s03.trans s4, htlH, s4 _ _ htl3, hT3.same s4, hsl0, ntl, s4 _ _ hsl3, (fun w h => absurd h List.not_mem_nil), .inr ⟨p, t, hp, rfl, ht⟩⟩
    clear hsl3 htl3 hT3 s03 hsl0 htlH ntl s3
    rintro σ H5 ⟨n0, hinv⟩
    refine ⟨FInv H m rl pl rs ps, ⟨n0, hinv⟩, ?_⟩
    clear hinv
    rintro n _ H4 ⟨T, ts, tl, sl, sw, v, rfl, A, s4, htl0, htl, hT, hsl0, ntl, hsl, hst, hv⟩
    refine ⟨_, rfl, rfl, _, rfl, ?_⟩
    have lsw := A.len
    rw [List.length_map] at lsw
    rcases hv with ⟨hn, rfl⟩ | ⟨p, t, hp, rfl, ht⟩
    · refine iteF ?_
      obtain ⟨d1, d2⟩ := A.done hn
      refine ⟨_, rfl, _, rfl, (by show 2 ≤ sizeLine; decide), fun tt htt => ?_⟩
      have s5 := Same.new (o := .tup [V.ref tl, V.ref sl]) htt
      exact q tt tl sl ts sw _ (s4.trans s5) upd_same htl0 (s5 _ _ htl) (by rw [← d1]; exact hT.same s5) hsl0 (s5 _ _ hsl) (hst.same s5) d2 (by omega) ntl
    · refine iteT ?_
      refine ⟨_, fun _ _ h => h, ?_⟩
      obtain ⟨⟨ri, rj, eri, erj, hc, estep⟩, n', rfl, A'⟩ := A.next m7 hrules hp
      refine ⟨_, rfl, .inl ⟨rfl, _, SqL.of hsl⟩, _, rfl, sl, _, _, rfl, rfl, hsl, (by rw [List.length_map]; exact small1000 (by omega)), ?_⟩
      have nt : t ≠ sl := ne_of ht hsl (by intro z; cases z)
      have s5 : Same H (upd H4 sl (.lst ((sw.map fun w => V.ref w.1) ++ [V.ref t]))) := s4.own hsl0
      have ht5 : (upd H4 sl (.lst ((sw.map fun w => V.ref w.1) ++ [V.ref t]))) t = some (.tup [vN p.1, vN p.2.1, vN p.2.2.1, vN p.2.2.2]) := by rw [upd_ne nt]; exact ht
      have hs5 : (upd H4 sl (.lst ((sw.map fun w => V.ref w.1) ++ [V.ref t]))) sl = some (.lst ((sw ++ [(t, p)]).map fun w => V.ref w.1)) := by rw [upd_same, List.map_append]; rfl
      have htl5 : (upd H4 sl (.lst ((sw.map fun w => V.ref w.1) ++ [V.ref t]))) tl = some (.lst (ts.map V.ref)) := by rw [upd_ne ntl]; exact htl
      have hT5 : TB (upd H4 sl (.lst ((sw.map fun w => V.ref w.1) ++ [V.ref t]))) m ts T := hT.putL hsl
      have st5 : Steps4 (upd H4 sl (.lst ((sw.map fun w => V.ref w.1) ++ [V.ref t]))) (sw ++ [(t, p)]) := (hst.put hsl).snoc (w := (t, p)) ht5
      generalize upd H4 sl (.lst ((sw.map fun w => V.ref w.1) ++ [V.ref t])) = H5 at s5 ht5 hs5 htl5 hT5 st5
      have lT : T.length ≤ 20 := by rw [A.ln]; unfold begT begK; rw [List.length_map, List.length_range]; omega
      refine ⟨_, rfl, _, rfl, t, _, _, _, rfl, rfl, SqT.of ht5, atI_nat (j := 1) rfl, _, rfl, t, _, _, _, rfl, rfl, SqT.of ht5, atI_nat (j := 2) rfl, _, rfl, t, _, _, _, rfl, rfl, SqT.of ht5, atI_nat (j := 3) rfl, tl, ts, T, m, p.2.1, p.2.2.1, p.2.2.2, ri, rj, rfl, SqL.of htl5, hT5, m7, lT, eri, erj, hc, fun tl' ts' H6 s6 htl0' htl' hT' => ?_⟩
      rw [← estep] at hT'
      have A2 : TAt m (rs.map Rl.d) (begT m ps) ((sw ++ [(t, p)]).map (·.2)) (stepT T p) n' := by rw [List.map_append]; exact A'
      have lT' : (stepT T p).length ≤ 20 := by rw [A2.ln, ← A.ln]; exact lT
      have s56 := s5.trans s6
      have hs6 := s6 _ _ hs5
      have ntl' : tl' ≠ sl := (ne_of_none hs5 htl0').symm
      refine ⟨_, rfl, _, rfl, rl, tl', rs, ts', stepT T p, m, rfl, s56.seq hrl, hRs.same s56, lr, SqL.of htl', hT', m7, lT', fun H7 s7 hn => ?_, fun p' t' H7 s7 hp' ht0' ht' => ?_⟩
      · exact ⟨n', by omega, stepT T p, ts', tl', sl, _, .non, rfl, A2, s56.trans s7, s5.none htl0', s7 _ _ htl', hT'.same s7, hsl0, ntl', s7 _ _ hs6, (st5.same s6).same s7, .inl ⟨hn, rfl⟩⟩
      · exact ⟨n', by omega, stepT T p, ts', tl', sl, _, .ref t', rfl, A2, s56.trans s7, s5.none htl0', s7 _ _ htl', hT'.same s7, hsl0, ntl', s7 _ _ hs6, (st5.same s6).same s7, .inr ⟨p', t', hp', rfl, ht'⟩⟩
theorem ok_filledX {f fCX CCN CTM : Addr} {fd fdCX : FuncData} (F : Fun K "filled" "filled" sFilled f fd) (GCX : FnOk P w K mg base (CX1 P w) 2 fCX fdCX ["many", "parts"] (spCheckX K CCN CTM)) (mCX : mg "check_parts" = some (.ref fCX)) (kCX : PySem.W.keepIn K (.ref fCX) = true) (bCX : Binds K fdCX ["many", "parts"] []) : FnOk P w K mg base (CX1 P w) 6 f fd ["many", "rules", "parts"] (spFilledX K CCN CTM) := by
  refine F.ok1 (k := 5) scFilled (fun vs H Q E h => ?_) (fun cdv A outer s' H vs Q E hr h => ?_)
  · obtain ⟨m, b, rl, pl, ps, rfl, _⟩ := h
    rfl
  · obtain ⟨m, b, rl, pl, ps, rfl, m7, hpl, lp, bad, qe⟩ := h
    have hr2 : Room 2 _ := hr.mono (by decide)
    refine ⟨_, (pss_cons (ps_expr (pe_call GCX hr2 rfl mCX kCX bCX .nil (pass1 fun _ _ z => z) (pa_cons (pv 0) (pa_cons (pv 2) pa_nil)))) pss_dead), ?_⟩
    exact ⟨_, rfl, _, rfl, m, b, pl, ps, rfl, m7, hpl, lp, bad, qe⟩
noncomputable abbrev sSafe : Stmt := top 26
theorem scSafe : FnScope ["many", "rules", "parts"] ["many", "rules", "parts"] (defScope sSafe) := ⟨rfl, rfl, rfl, by decide +kernel, rfl, by decide +kernel, by decide +kernel⟩
theorem ok_safe {f fN fFL : Addr} {fd fdN fdFL : FuncData} (F : Fun K "is_safe" "is_safe" sSafe f fd) (GN : FnOk P w K mg base CX0 1 fN fdN ["many"] spNoughts) (mN : mg "noughts" = some (.ref fN)) (kN : PySem.W.keepIn K (.ref fN) = true) (bN : Binds K fdN ["many"] []) (GFL : FnOk P w K mg base CX0 6 fFL fdFL ["many", "rules", "parts"] (spFilled K)) (mFL : mg "filled" = some (.ref fFL)) (kFL : PySem.W.keepIn K (.ref fFL) = true) (bFL : Binds K fdFL ["many", "rules", "parts"] []) : FnOk P w K mg base CX0 7 f fd ["many", "rules", "parts"] (spSafe K) := by
  refine F.ok scSafe (fun vs H Q E h => ?_) (fun cdv A outer s' H vs Q E hr h => ?_)
  · obtain ⟨m, rl, pl, rs, ps, rfl, _⟩ := h
    rfl
  · obtain ⟨m, rl, pl, rs, ps, rfl, m1, m7, hrl, hRs, lr, hpl, lp, hf, q⟩ := h
    have hr1 : Room 1 _ := hr.mono (by decide)
    have hr6 : Room 6 _ := hr.mono (by decide)
    refine ⟨_, (pss_one (ps_ret (pe_cmpR (op_inTT (K := K) rfl hr.units) (pe_call GN hr1 rfl mN kN bN .nil pass0 (pa_cons (pv 0) pa_nil)) (pe_ix (ix_tupK (K := K) rfl) (pe_call GFL hr6 rfl mFL kFL bFL .nil pass0 (pa_cons (pv 0) (pa_cons (pv 1) (pa_cons (pv 2) pa_nil)))) pe_int (fun _ _ => rfl)) (by rfl)))), ?_⟩
    refine ⟨_, rfl, m, rfl, m1, by omega, fun p H1 s1 hp0 hp => ?_⟩
    refine ⟨_, rfl, _, rfl, _, rfl, m, rl, pl, rs, ps, rfl, m1, m7, s1.seq hrl, hRs.same s1, lr, s1.seq hpl, lp, hf, fun t tl sl ts sw H2 s2 ht htl0 htl hT _ _ _ _ _ _ => ?_⟩
    refine ⟨t, _, _, _, rfl, rfl, SqT.of ht, atI_nat (j := 0) rfl, ?_⟩
    obtain ⟨z1, z2⟩ := hT.zip
    refine ⟨p, tl, List.replicate m 0, ts.zip (runT (rs.map Rl.d) 1000 (begT m ps)).1, rfl, rfl, s2 _ _ hp, SqL.of (by rw [zip_refs hT.len]; exact htl), z1, fun b hb => ?_⟩
    exact q b H2 (s1.trans s2) (hb.trans (z2 _))
theorem ok_safeX {f fN fFX CCN CTM : Addr} {fd fdN fdFX : FuncData} (F : Fun K "is_safe" "is_safe" sSafe f fd) (GN : FnOk P w K mg base CX0 1 fN fdN ["many"] spNoughts) (mN : mg "noughts" = some (.ref fN)) (kN : PySem.W.keepIn K (.ref fN) = true) (bN : Binds K fdN ["many"] []) (GFX : FnOk P w K mg base (CX1 P w) 6 fFX fdFX ["many", "rules", "parts"] (spFilledX K CCN CTM)) (mFX : mg "filled" = some (.ref fFX)) (kFX : PySem.W.keepIn K (.ref fFX) = true) (bFX : Binds K fdFX ["many", "rules", "parts"] []) : FnOk P w K mg base (CX1 P w) 7 f fd ["many", "rules", "parts"] (spSafeX K CCN CTM) := by
  refine F.ok1 scSafe (fun vs H Q E h => ?_) (fun cdv A outer s' H vs Q E hr h => ?_)
  · obtain ⟨m, b, rl, pl, ps, rfl, _⟩ := h
    rfl
  · obtain ⟨m, b, rl, pl, ps, rfl, m1, m7, hpl, lp, bad, qe⟩ := h
    have hr1 : Room 1 _ := hr.mono (by decide)
    have hr6 : Room 6 _ := hr.mono (by decide)
    refine ⟨_, (pss_one (ps_ret (pe_cmpR (op_inTT (K := K) rfl hr.units) (pe_call GN hr1 rfl mN kN bN .nil pass0 (pa_cons (pv 0) pa_nil)) (pe_ix (ix_tupK (K := K) rfl) (pe_call GFX hr6 rfl mFX kFX bFX .nil (pass1 fun _ _ z => z) (pa_cons (pv 0) (pa_cons (pv 1) (pa_cons (pv 2) pa_nil)))) pe_int (fun _ _ => rfl)) (by rfl)))), ?_⟩
    refine ⟨_, rfl, m, rfl, m1, by omega, fun p H1 s1 hp0 hp => ?_⟩
    exact ⟨_, rfl, _, rfl, _, rfl, m, b, rl, pl, ps, rfl, m7, s1.seq hpl, lp, bad, qe _ s1⟩
end
end Own

namespace Own
open PySem L2
section
variable {P : Program} {w : World} {K : PySem.W.Frag} {mg : Str → Option Value} {base : Heap}
seal PySem.wpAny
noncomputable abbrev sCanUse : Stmt := top 28
theorem scCanUse : FnScope ["rule", "block", "taken"] ["rule", "block"] (defScope sCanUse) := ⟨rfl, rfl, rfl, by decide +kernel, rfl, by decide +kernel, by decide +kernel⟩
theorem ok_canuse {f : Addr} {fd : FuncData} (F : Fun K "can_use" "can_use" sCanUse f fd) : FnOk P w K mg base CX0 1 f fd ["rule", "block"] spUsable := by
  refine F.ok scCanUse (fun vs H Q E h => ?_) (fun cdv A outer s H vs Q E hr h => ?_)
  · obtain ⟨r, st, x, y, b, rfl, _⟩ := h
    rfl
  · obtain ⟨r, st, x, y, b, rfl, hR, q⟩ := h
    have nd := scCanUse.nd
    refine ⟨_, (pss_cons (ps_if (pt_cmpR op_neN (pe_op op_andN (pe_ix (ix_tupK (K := K) rfl) (pv 0) pe_int (fun _ _ => rfl)) (pv 1)) pe_int (nomark _)) (pss_one (ps_ret pe_bl)) pss_nil)
      (pss_cons (ps_set (i := 2) nd rfl (Or.inl rfl) (pe_op op_andN (pe_ix (ix_tupK (K := K) rfl) (pv 0) pe_int (fun _ _ => rfl)) (pv 1)))
      (pss_cons (ps_if (pt_cmpR op_eq (pe_ix (ix_tupK (K := K) rfl) (pv 0) pe_int (fun _ _ => rfl)) pe_str (nomark _)) (pss_one (ps_ret (pe_cmpR op_neN (pv 2) pe_int (nomark _)))) pss_nil)
      (pss_one (ps_ret (pe_and (pe_cmpR op_neN (pv 2) pe_int (nomark _)) (pe_one (pe_cmpR op_neN (pv 2) (pv 1) (nomark _))))))))), ?_⟩
    refine ⟨_, rfl, r, _, _, _, rfl, rfl, SqT.of hR, atI_nat (j := 1) rfl, _, rfl, x, b, rfl, rfl, x &&& b, 0, rfl, rfl, _, rfl, ?_⟩
    cases c1 : decide (x &&& b = 0) with
    | false =>
      refine iteT ?_
      have : usableB st x y b = false := by unfold usableB; rw [c1]; rfl
      rw [this] at q
      exact q
    | true =>
      refine iteF ?_
      refine ⟨_, rfl, r, _, _, _, rfl, rfl, SqT.of hR, atI_nat (j := 2) rfl, _, rfl, y, b, rfl, rfl, ?_⟩
      refine ⟨_, rfl, r, _, _, _, rfl, rfl, SqT.of hR, atI_nat (j := 0) rfl, rfl, _, rfl, ?_⟩
      cases st with
      | true =>
        refine iteT ?_
        have : usableB true x y b = !decide (y &&& b = 0) := by unfold usableB; rw [c1]; simp
        rw [this] at q
        exact ⟨_, rfl, y &&& b, 0, rfl, rfl, q⟩
      | false =>
        refine ite2 (fun hc => ?_) (fun _ => ?_)
        · exact absurd (of_decide_eq_true hc) (by intro z; injection z with z; revert z; decide)
        refine ⟨_, rfl, y &&& b, 0, rfl, rfl, _, rfl, ?_⟩
        cases c2 : decide (y &&& b = 0) with
        | true =>
          refine iteF ?_
          have : usableB false x y b = false := by unfold usableB; rw [c1, c2]; rfl
          rw [this] at q
          exact q
        | false =>
          refine iteT ?_
          have : usableB false x y b = !decide (y &&& b = b) := by unfold usableB; rw [c1, c2]; simp
          rw [this] at q
          exact ⟨_, rfl, _, rfl, y &&& b, b, rfl, rfl, q⟩
noncomputable abbrev sListed : Stmt := top 29
theorem scListed : FnScope ["block"] ["block"] (defScope sListed) := ⟨rfl, rfl, rfl, by decide +kernel, rfl, by decide +kernel, by decide +kernel⟩
theorem ok_listed {f : Addr} {fd : FuncData} (F : Fun K "listed" "listed" sListed f fd) : FnOk P w K mg base CX0 1 f fd ["block"] spListed := by
  refine F.ok scListed (fun vs H Q E h => ?_) (fun cdv A outer s H vs Q E hr h => ?_)
  · obtain ⟨b, rfl, _⟩ := h
    rfl
  · obtain ⟨b, rfl, q⟩ := h
    refine ⟨_, (pss_cons (ps_if (pt_cmpR op_eqN (pv 0) pe_int (nomark _)) (pss_one (ps_ret (pe_lst pa_nil))) pss_nil)
      (pss_one (ps_ret (pe_lst (pa_cons (pv 0) pa_nil))))), ?_⟩
    refine ⟨_, rfl, b, 0, rfl, rfl, _, rfl, ite2 (fun hc => ?_) (fun hc => ?_)⟩
    · have b0 : b = 0 := of_decide_eq_true hc
      refine ⟨(by show 0 ≤ sizeLine; exact Nat.zero_le _), fun p hp => ?_⟩
      have := q p hp
      rw [if_neg (by omega)] at this
      exact this
    · have b0 : 0 < b := Nat.pos_of_ne_zero fun z => hc (decide_eq_true z)
      refine ⟨_, rfl, (by show 1 ≤ sizeLine; decide), fun p hp => ?_⟩
      have := q p hp
      rw [if_pos b0] at this
      exact this
noncomputable abbrev sUsed : Stmt := top 30
theorem scUsed : FnScope ["rule", "fixed", "blocks", "at", "taken", "rest"] ["rule", "fixed", "blocks", "at"] (defScope sUsed) := ⟨rfl, rfl, rfl, by decide +kernel, rfl, by decide +kernel, by decide +kernel⟩
theorem ok_used {f fI : Addr} {fd fdI : FuncData} (F : Fun K "used" "used" sUsed f fd) (GI : FnOk P w K mg base CX0 1 fI fdI ["block"] spListed) (mI : mg "listed" = some (.ref fI)) (kI : PySem.W.keepIn K (.ref fI) = true) (bI : Binds K fdI ["block"] []) : FnOk P w K mg base CX0 2 f fd ["rule", "fixed", "blocks", "at"] (spUsed K) := by
  refine F.ok scUsed (fun vs H Q E h => ?_) (fun cdv A outer s H vs Q E hr h => ?_)
  · obtain ⟨r, l, st, x, y, fx, at_, bs, rfl, _⟩ := h
    rfl
  · obtain ⟨r, l, st, x, y, fx, at_, bs, rfl, hR, hl, hat, hb, hdis, q⟩ := h
    have nd := scUsed.nd
    refine ⟨_, (pss_cons (ps_set (i := 4) nd rfl (Or.inl rfl) (pe_op op_andN (pe_ix (ix_listK (K := K) rfl) (pv 2) (pv 3) (fun _ _ => rfl)) (pe_ix (ix_tupK (K := K) rfl) (pv 0) pe_int (fun _ _ => rfl))))
      (pss_cons (ps_set (i := 5) nd rfl (Or.inl rfl) (pe_op op_andInv (pe_ix (ix_listK (K := K) rfl) (pv 2) (pv 3) (fun _ _ => rfl)) (pe_un un_inv (pe_ix (ix_tupK (K := K) rfl) (pv 0) pe_int (fun _ _ => rfl)))))
      (pss_cons (ps_if (pt_cmpR op_eq (pe_ix (ix_tupK (K := K) rfl) (pv 0) pe_int (fun _ _ => rfl)) pe_str (nomark _)) (pss_one (ps_ret (pe_tup (pa_cons (pe_op op_orN (pv 1) (pv 4)) (pa_cons (pe_op op_cat (pe_op op_cat (pe_slice sl_list (pv 2) po_none (po_some (pv 3))) (pe_call GI hr rfl mI kI bI .nil pass0 (pa_cons (pv 5) pa_nil))) (pe_slice sl_list (pv 2) (po_some (pe_op op_addN (pv 3) pe_int)) po_none)) pa_nil))))) pss_nil)
      (pss_one (ps_ret (pe_tup (pa_cons (pv 1) (pa_cons (pe_op op_cat (pe_op op_cat (pe_slice sl_list (pv 2) po_none (po_some (pv 3))) (pe_lst (pa_cons (pv 4) (pa_cons (pv 5) pa_nil)))) (pe_slice sl_list (pv 2) (po_some (pe_op op_addN (pv 3) pe_int)) po_none)) pa_nil)))))))), ?_⟩
    have eb : bs[at_]? = some (bs.getD at_ 0) := by rw [List.getD_eq_getElem?_getD, List.getElem?_eq_getElem hat]; rfl
    have ebv : (bs.map vN)[at_]? = some (vN (bs.getD at_ 0)) := by rw [List.getElem?_map, eb]; rfl
    refine ⟨_, rfl, _, rfl, l, _, _, _, rfl, rfl, hl, atI_nat ebv, _, rfl, r, _, _, _, rfl, rfl, SqT.of hR, atI_nat (j := 2) rfl, bs.getD at_ 0, y, rfl, rfl, ?_⟩
    refine ⟨_, rfl, _, rfl, l, _, _, _, rfl, rfl, hl, atI_nat ebv, _, rfl, r, _, _, _, rfl, rfl, SqT.of hR, atI_nat (j := 2) rfl, (y : Int), rfl, bs.getD at_ 0, y, rfl, rfl, ?_⟩
    refine ⟨_, rfl, r, _, _, _, rfl, rfl, SqT.of hR, atI_nat (j := 0) rfl, rfl, _, rfl, ?_⟩
    have lt : (List.take at_ (bs.map vN)).length ≤ 200 := by rw [List.length_take, List.length_map]; omega
    have ld : (List.drop (at_ + 1) (bs.map vN)).length ≤ 200 := by rw [List.length_drop, List.length_map]; omega
    have szc : ∀ n : Nat, n ≤ 1000 → n ≤ sizeLine := fun n h => Nat.le_of_lt (small1000 h)
    have e1 : cutV (bs.map vN) none (some (at_ : Int)) = List.take at_ (bs.map vN) := cut_take _ _
    have e2 : cutV (bs.map vN) (some ((at_ + 1 : Nat) : Int)) none = List.drop (at_ + 1) (bs.map vN) := cut_drop _ _
    cases st with
    | true =>
      refine iteT ?_
      have eo : behindFx true y fx bs at_ = fx ||| inN y bs at_ := by
        unfold behindFx
        rw [if_pos rfl]
        exact (or_add fx (inN y bs at_) (dis_sub hdis (sub_in _ y))).symm
      refine ⟨_, rfl, _, rfl, fx, inN y bs at_, rfl, rfl, ?_⟩
      refine ⟨_, rfl, _, rfl, (at_ : Int), rfl, l, _, rfl, hl, fun p1 hp1 => ?_⟩
      rw [e1]
      have s1 := Same.new (o := .lst (List.take at_ (bs.map vN))) hp1
      refine ⟨_, rfl, outN y bs at_, rfl, fun p3 hp3 => ?_⟩
      have s3 := Same.new (o := .lst ((if 0 < outN y bs at_ then [outN y bs at_] else []).map vN)) hp3
      have l3 : ((if 0 < outN y bs at_ then [outN y bs at_] else []).map vN).length ≤ 1 := by split <;> simp
      refine ⟨p1, p3, List.take at_ (bs.map vN), (if 0 < outN y bs at_ then [outN y bs at_] else []).map vN, rfl, rfl, s3 _ _ upd_same, upd_same, szc _ (by omega), fun p4 hp4 => ?_⟩
      have s4 := Same.new (o := .lst (List.take at_ (bs.map vN) ++ (if 0 < outN y bs at_ then [outN y bs at_] else []).map vN)) hp4
      have s14 := (s1.trans s3).trans s4
      refine ⟨_, rfl, _, rfl, at_, 1, rfl, rfl, ((at_ + 1 : Nat) : Int), rfl, l, _, rfl, s14.seq hl, fun p5 hp5 => ?_⟩
      rw [e2]
      have s5 := Same.new (o := .lst (List.drop (at_ + 1) (bs.map vN))) hp5
      refine ⟨p4, p5, List.take at_ (bs.map vN) ++ (if 0 < outN y bs at_ then [outN y bs at_] else []).map vN, List.drop (at_ + 1) (bs.map vN), rfl, rfl, s5 _ _ upd_same, upd_same, szc _ (by rw [List.length_append]; omega), fun p6 hp6 => ?_⟩
      have e6 : List.take at_ (bs.map vN) ++ (if 0 < outN y bs at_ then [outN y bs at_] else []).map vN ++ List.drop (at_ + 1) (bs.map vN) = (behindBs true y bs at_).map vN := by
        unfold behindBs
        rw [if_pos rfl, List.map_append, List.map_append, List.map_take, List.map_drop]
      rw [e6]
      have s6 := Same.new (o := .lst ((behindBs true y bs at_).map vN)) hp6
      refine ⟨(by show 2 ≤ sizeLine; decide), fun t ht => ?_⟩
      have s7 := Same.new (o := .tup [vN (fx ||| inN y bs at_), V.ref p6]) ht
      have s16 := (s14.trans s5).trans s6
      exact q t p6 _ (s16.trans s7) (s16.none ht) (by rw [eo]; exact upd_same) ((s14.trans s5).none hp6) (s7 _ _ upd_same)
    | false =>
      refine ite2 (fun hc => ?_) (fun _ => ?_)
      · exact absurd (of_decide_eq_true hc) (by intro z; injection z with z; revert z; decide)
      refine ⟨_, rfl, ?_⟩
      refine ⟨_, rfl, _, rfl, (at_ : Int), rfl, l, _, rfl, hl, fun p1 hp1 => ?_⟩
      rw [e1]
      have s1 := Same.new (o := .lst (List.take at_ (bs.map vN))) hp1
      refine ⟨_, rfl, _, rfl, (by show 2 ≤ sizeLine; decide), fun p3 hp3 => ?_⟩
      have s3 := Same.new (o := .lst [vN (inN y bs at_), vN (outN y bs at_)]) hp3
      refine ⟨p1, p3, List.take at_ (bs.map vN), [vN (inN y bs at_), vN (outN y bs at_)], rfl, rfl, s3 _ _ upd_same, upd_same, szc _ (by show _ + 2 ≤ 1000; omega), fun p4 hp4 => ?_⟩
      have s4 := Same.new (o := .lst (List.take at_ (bs.map vN) ++ [vN (inN y bs at_), vN (outN y bs at_)])) hp4
      have s14 := (s1.trans s3).trans s4
      refine ⟨_, rfl, _, rfl, at_, 1, rfl, rfl, ((at_ + 1 : Nat) : Int), rfl, l, _, rfl, s14.seq hl, fun p5 hp5 => ?_⟩
      rw [e2]
      have s5 := Same.new (o := .lst (List.drop (at_ + 1) (bs.map vN))) hp5
      refine ⟨p4, p5, List.take at_ (bs.map vN) ++ [vN (inN y bs at_), vN (outN y bs at_)], List.drop (at_ + 1) (bs.map vN), rfl, rfl, s5 _ _ upd_same, upd_same, szc _ (by rw [List.length_append]; show _ + 2 + _ ≤ 1000; omega), fun p6 hp6 => ?_⟩
      have e6 : List.take at_ (bs.map vN) ++ [vN (inN y bs at_), vN (outN y bs at_)] ++ List.drop (at_ + 1) (bs.map vN) = (behindBs false y bs at_).map vN := by
        unfold behindBs
        rw [if_neg Bool.false_ne_true, List.map_append, List.map_append, List.map_take, List.map_drop]
        rfl
      rw [e6]
      have s6 := Same.new (o := .lst ((behindBs false y bs at_).map vN)) hp6
      refine ⟨(by show 2 ≤ sizeLine; decide), fun t ht => ?_⟩
      have s7 := Same.new (o := .tup [vN fx, V.ref p6]) ht
      have s16 := (s14.trans s5).trans s6
      exact q t p6 _ (s16.trans s7) (s16.none ht) upd_same ((s14.trans s5).none hp6) (s7 _ _ upd_same)
noncomputable abbrev sBegun : Stmt := top 31
theorem scBegun : FnScope ["many", "some"] ["many", "some"] (defScope sBegun) := ⟨rfl, rfl, rfl, by decide +kernel, rfl, by decide +kernel, by decide +kernel⟩
theorem ok_begun {f fI fAL : Addr} {fd fdI fdAL : FuncData} (F : Fun K "begun" "begun" sBegun f fd) (GI : FnOk P w K mg base CX0 1 fI fdI ["block"] spListed) (mI : mg "listed" = some (.ref fI)) (kI : PySem.W.keepIn K (.ref fI) = true) (bI : Binds K fdI ["block"] []) (GAL : FnOk P w K mg base CX0 1 fAL fdAL ["many"] spAllOf) (mAL : mg "all_of" = some (.ref fAL)) (kAL : PySem.W.keepIn K (.ref fAL) = true) (bAL : Binds K fdAL ["many"] []) : FnOk P w K mg base CX0 2 f fd ["many", "some"] (spBegun K) := by
  refine F.ok scBegun (fun vs H Q E h => ?_) (fun cdv A outer s H vs Q E hr h => ?_)
  · obtain ⟨m, x, rfl, _⟩ := h
    rfl
  · obtain ⟨m, x, rfl, m7, hx, q⟩ := h
    have hr1 : Room 1 _ := hr.mono (by decide)
    refine ⟨_, (pss_one (ps_ret (pe_tup (pa_cons (pv 1) (pa_cons (pe_call GI hr1 rfl mI kI bI .nil pass0 (pa_cons (pe_op op_andInv (pe_call GAL hr1 rfl mAL kAL bAL .nil pass0 (pa_cons (pv 0) pa_nil)) (pe_un un_inv (pv 1))) pa_nil)) pa_nil))))), ?_⟩
    refine ⟨_, rfl, _, rfl, m, rfl, by omega, _, rfl, (x : Int), rfl, 2 ^ m - 1, x, rfl, rfl, 2 ^ m - 1 - ((2 ^ m - 1) &&& x), rfl, fun p hp => ?_⟩
    have ea : (2 ^ m - 1) &&& x = x := by rw [Nat.and_comm, Nat.and_two_pow_sub_one_eq_mod, Nat.mod_eq_of_lt hx]
    have e : (if 0 < 2 ^ m - 1 - ((2 ^ m - 1) &&& x) then [2 ^ m - 1 - ((2 ^ m - 1) &&& x)] else []) = beginBs m x := by
      rw [ea]
      unfold beginBs
      by_cases h : x < 2 ^ m - 1
      · rw [if_pos h, if_pos (by omega)]
      · rw [if_neg h, if_neg (by omega)]
    rw [e]
    have s1 := Same.new (o := .lst ((beginBs m x).map vN)) hp
    refine ⟨(by show 2 ≤ sizeLine; decide), fun t ht => ?_⟩
    have s2 := Same.new (o := .tup [vN x, V.ref p]) ht
    exact q t p _ (s1.trans s2) (s1.none ht) upd_same hp (s2 _ _ upd_same)
noncomputable abbrev sFirst : Stmt := top 32
theorem scFirst : FnScope ["rules", "blocks", "number", "rule", "at", "block"] ["rules", "blocks"] (defScope sFirst) := ⟨rfl, rfl, rfl, by decide +kernel, rfl, by decide +kernel, by decide +kernel⟩
theorem ok_first {f fCU : Addr} {fd fdCU : FuncData} (F : Fun K "first_use" "first_use" sFirst f fd) (GCU : FnOk P w K mg base CX0 1 fCU fdCU ["rule", "block"] spUsable) (mCU : mg "can_use" = some (.ref fCU)) (kCU : PySem.W.keepIn K (.ref fCU) = true) (bCU : Binds K fdCU ["rule", "block"] []) (zenumerate : mg "enumerate" = none) : FnOk P w K mg base CX0 2 f fd ["rules", "blocks"] (spFirstUse K) := by
  refine F.ok scFirst (fun vs H Q E h => ?_) (fun cdv A outer s H vs Q E hr h => ?_)
  · obtain ⟨rl, bl, rs, bs, m, rfl, _⟩ := h
    rfl
  · obtain ⟨rl, bl, rs, bs, m, rfl, hrl, hRs, hbl, lr, lb, qn, qs⟩ := h
    have nd := scFirst.nd
    have hr : Room 1 _ := hr.mono (by decide)
    have lrm : (rs.map fun r => V.ref r.r).length = rs.length := List.length_map ..
    have lbm : (bs.map vN).length = bs.length := List.length_map ..
    refine ⟨_, (pss_cons (ps_for PassesOwn.never rfl (pi_enum (K := K) rfl rfl zenumerate (pa_cons (pv 0) pa_nil)) (pg_tup rfl (pgs_cons (pg_name (i := 2) nd rfl (Or.inl rfl)) (pgs_cons (pg_name (i := 3) nd rfl (Or.inl rfl)) pgs_nil))) (pss_one (ps_for PassesOwn.never rfl (pi_enum (K := K) rfl rfl zenumerate (pa_cons (pv 1) pa_nil)) (pg_tup rfl (pgs_cons (pg_name (i := 4) nd rfl (Or.inl rfl)) (pgs_cons (pg_name (i := 5) nd rfl (Or.inl rfl)) pgs_nil))) (pss_one (ps_if (pt_val (pe_call GCU hr rfl mCU kCU bCU .nil pass0 (pa_cons (pv 3) (pa_cons (pv 5) pa_nil)))) (pss_one (ps_ret (pe_tup (pa_cons (pv 2) (pa_cons (pv 4) pa_nil))))) pss_nil)))))
      (pss_one (ps_ret pe_non))), ?_⟩
    refine ⟨_, rfl, rl, _, rfl, hrl, for_enum (xs := rs.map fun r => V.ref r.r) (fun i σ H' => (∃ v2 v3 v4 v5, σ = [some (.ref rl), some (.ref bl), v2, v3, v4, v5]) ∧ Same H H' ∧ usesN (rs.map Rl.d) bs i = []) ⟨⟨none, none, none, none, rfl⟩, Same.refl _, rfl⟩ (fun i σ H' _ h => h.2.1.seq hrl) ?_ ?_⟩
    · rintro i v σ H0 t0 hv ⟨⟨v2, v3, v4, v5, rfl⟩, s0, u0⟩ ht0
      rw [List.getElem?_map] at hv
      cases er : rs[i]? with
      | none => rw [er] at hv; cases hv
      | some r =>
        rw [er] at hv
        obtain rfl := (Option.some.inj hv).symm
        have hi : i < rs.length := (List.getElem?_eq_some_iff.mp er).1
        have hrm := List.mem_of_getElem? er
        have s1 := s0.trans (Same.new (o := .tup [.int (i : Int), V.ref r.r]) ht0)
        refine ⟨t0, _, rfl, SqT.of upd_same, rfl, _, _, rfl, _, _, rfl, rfl, ?_⟩
        generalize upd H0 t0 (.tup [.int (i : Int), V.ref r.r]) = H1 at s1
        refine ⟨_, rfl, bl, _, rfl, s1.seq hbl, for_enum (xs := bs.map vN) (fun j σ H' => (∃ v4 v5, σ = [some (.ref rl), some (.ref bl), some (vN i), some (.ref r.r), v4, v5]) ∧ Same H H' ∧ usesR r.d i bs j = []) ⟨⟨_, _, rfl⟩, s1, rfl⟩ (fun j σ H' _ h => h.2.1.seq hbl) ?_ ?_⟩
        · rintro j v σ H2 t2 hv' ⟨⟨v4', v5', rfl⟩, s2, u2⟩ ht2
          rw [List.getElem?_map] at hv'
          cases eb : bs[j]? with
          | none => rw [eb] at hv'; cases hv'
          | some b =>
            rw [eb] at hv'
            obtain rfl := (Option.some.inj hv').symm
            have hj : j < bs.length := (List.getElem?_eq_some_iff.mp eb).1
            have ebd : bs.getD j 0 = b := by rw [List.getD_eq_getElem?_getD, eb]; rfl
            have s3 := s2.trans (Same.new (o := .tup [.int (j : Int), vN b]) ht2)
            refine ⟨t2, _, rfl, SqT.of upd_same, rfl, _, _, rfl, _, _, rfl, rfl, ?_⟩
            generalize upd H2 t2 (.tup [.int (j : Int), vN b]) = H3 at s3
            refine ⟨_, rfl, _, rfl, r.r, r.st, r.x, r.y, b, rfl, s3 _ _ (hRs r hrm).1, _, rfl, ite2 (fun hu => ?_) (fun hu => ?_)⟩
            · obtain ⟨us, eu⟩ := uses_first (n := rs.length) u0 (by rw [rd_at er]; exact u2) hi hj (by rw [rd_at er, ebd]; exact hu)
              refine ⟨_, rfl, _, rfl, (by show 2 ≤ sizeLine; decide), fun t ht => ?_⟩
              exact qs (i, j) us t _ (s3.trans (Same.new ht)) eu (s3.none ht) upd_same
            · refine ⟨⟨_, _, rfl⟩, s3, ?_⟩
              rw [usesR_succ, u2, ebd, if_neg (show ¬ usB r.d b = true from hu)]; rfl
        · rintro σ H2 ⟨⟨v4', v5', rfl⟩, s2, u2⟩
          rw [lbm] at u2
          refine ⟨⟨_, _, _, _, rfl⟩, s2, ?_⟩
          rw [usesN_succ, u0, rd_at er, u2]; rfl
    · rintro σ H' ⟨⟨v2, v3, v4, v5, rfl⟩, s', u'⟩
      rw [lrm] at u'
      exact qn H' s' u'
end
end Own

namespace Own
open PySem L2
section
variable {P : Program} {w : World} {K : PySem.W.Frag} {mg : Str → Option Value} {base : Heap}
seal PySem.wpAny
noncomputable abbrev sUnf : Stmt := top 33
theorem scUnf : FnScope ["many", "rules", "some", "now", "steps", "use"] ["many", "rules", "some"] (defScope sUnf) := ⟨rfl, rfl, rfl, by decide +kernel, rfl, by decide +kernel, by decide +kernel⟩
theorem ok_unf {f fBG fFU fUD : Addr} {fd fdBG fdFU fdUD : FuncData} (F : Fun K "unfolded" "unfolded" sUnf f fd) (GBG : FnOk P w K mg base CX0 2 fBG fdBG ["many", "some"] (spBegun K)) (mBG : mg "begun" = some (.ref fBG)) (kBG : PySem.W.keepIn K (.ref fBG) = true) (bBG : Binds K fdBG ["many", "some"] []) (GFU : FnOk P w K mg base CX0 2 fFU fdFU ["rules", "blocks"] (spFirstUse K)) (mFU : mg "first_use" = some (.ref fFU)) (kFU : PySem.W.keepIn K (.ref fFU) = true) (bFU : Binds K fdFU ["rules", "blocks"] []) (GUD : FnOk P w K mg base CX0 2 fUD fdUD ["rule", "fixed", "blocks", "at"] (spUsed K)) (mUD : mg "used" = some (.ref fUD)) (kUD : PySem.W.keepIn K (.ref fUD) = true) (bUD : Binds K fdUD ["rule", "fixed", "blocks", "at"] []) : FnOk P w K mg base CX0 3 f fd ["many", "rules", "some"] (spUnfolded K) := by
  refine F.ok scUnf (fun vs H Q E h => ?_) (fun cdv A outer s H vs Q E hr h => ?_)
  · obtain ⟨m, x, rl, rs, rfl, _⟩ := h
    rfl
  · obtain ⟨m, x, rl, rs, rfl, m7, hx, hrl, hRs, lr, qq⟩ := h
    have nd := scUnf.nd
    have hr2 : Room 2 _ := hr.mono (by decide)
    refine ⟨_, (pss_cons (ps_set (i := 3) nd rfl (Or.inl rfl) (pe_call GBG hr2 rfl mBG kBG bBG .nil pass0 (pa_cons (pv 0) (pa_cons (pv 2) pa_nil)))) (pss_cons (ps_set (i := 4) nd rfl (Or.inl rfl) (pe_lst pa_nil)) (pss_cut (fun σ H' => ∃ n, UInv H m x rl rs n σ H') (ps_set (i := 5) nd rfl (Or.inl rfl) (pe_call GFU hr2 rfl mFU kFU bFU .nil pass0 (pa_cons (pv 1) (pa_cons (pe_ix (ix_tupK (K := K) rfl) (pv 3) pe_int (fun _ _ => rfl)) pa_nil)))) (pss_cons (ps_while PassesOwn.never (pt_cmpR op_notN (pv 5) pe_non (nomark _)) (pss_cons (ps_expr (pe_bm PySem.F.plainAttrs_list PySem.F.slot_list_append PySem.F.type_list_append mt_append (pv 4) (pa_cons (pe_tup (pa_cons (pe_ix (ix_tupK (K := K) rfl) (pv 5) pe_int (fun _ _ => rfl)) (pa_cons (pe_ix (ix_listK (K := K) rfl) (pe_ix (ix_tupK (K := K) rfl) (pv 3) pe_int (fun _ _ => rfl)) (pe_ix (ix_tupK (K := K) rfl) (pv 5) pe_int (fun _ _ => rfl)) (fun _ _ => rfl)) pa_nil))) pa_nil)))
      (pss_cons (ps_set (i := 3) nd rfl (Or.inl rfl) (pe_call GUD hr2 rfl mUD kUD bUD .nil pass0 (pa_cons (pe_ix (ix_listK (K := K) rfl) (pv 1) (pe_ix (ix_tupK (K := K) rfl) (pv 5) pe_int (fun _ _ => rfl)) (fun _ _ => rfl)) (pa_cons (pe_ix (ix_tupK (K := K) rfl) (pv 3) pe_int (fun _ _ => rfl)) (pa_cons (pe_ix (ix_tupK (K := K) rfl) (pv 3) pe_int (fun _ _ => rfl)) (pa_cons (pe_ix (ix_tupK (K := K) rfl) (pv 5) pe_int (fun _ _ => rfl)) pa_nil))))))
      (pss_one (ps_set (i := 5) nd rfl (Or.inl rfl) (pe_call GFU hr2 rfl mFU kFU bFU .nil pass0 (pa_cons (pv 1) (pa_cons (pe_ix (ix_tupK (K := K) rfl) (pv 3) pe_int (fun _ _ => rfl)) pa_nil)))))))) (pss_one (ps_ret (pe_tup (pa_cons (pe_ix (ix_tupK (K := K) rfl) (pv 3) pe_int (fun _ _ => rfl)) (pa_cons (pe_ix (ix_tupK (K := K) rfl) (pv 3) pe_int (fun _ _ => rfl)) (pa_cons (pv 4) pa_nil)))))))))), ?_⟩
    refine ⟨_, rfl, _, rfl, m, x, rfl, m7, hx, fun t0 p0 H1 s1 ht0 ht1 hp0 hp1 => ?_⟩
    refine ⟨(by show 0 ≤ sizeLine; exact Nat.zero_le _), fun qa hqa => ?_⟩
    have c2 := UCore.begin (rs := rs) m7 hx s1 hp0 hp1 hqa
    have ht2 := Same.new (o := .lst []) hqa _ _ ht1
    generalize upd H1 qa (.lst []) = H2 at c2 ht2
    refine ⟨⟨_, rfl, _, rfl, t0, _, _, _, rfl, rfl, SqT.of ht2, atI_nat (j := 1) rfl, rl, p0, rs, beginBs m x, m, rfl, c2.same.seq hrl, hRs.same c2.same, SqL.of c2.hp, lr, (by have := c2.good.len m7; exact Nat.le_trans this (by decide)), fun H3 s3 hu => ?_, fun u us t5 H3 s3 hu ht5 ht5' => ?_⟩, ?_⟩
    · exact ⟨_, _, t0, p0, qa, [], .non, rfl, rfl, s3 _ _ ht2, c2.mono s3, .inl ⟨hu, rfl⟩⟩
    · exact ⟨_, _, t0, p0, qa, [], .ref t5, rfl, rfl, s3 _ _ ht2, c2.mono s3, .inr ⟨u, us, t5, hu, rfl, ht5'⟩⟩
    clear c2 ht2 ht1 hp1 hp0 ht0 s1 hqa
    rintro σ H3 ⟨n0, hinv⟩
    refine ⟨UInv H m x rl rs, ⟨n0, hinv⟩, ?_⟩
    rintro n _ H4 ⟨s, t, p, qa, sw, v, rfl, en, ht, c, hv⟩
    refine ⟨_, rfl, rfl, _, rfl, ?_⟩
    rcases hv with ⟨hu, rfl⟩ | ⟨u, us, t5, hu, rfl, ht5⟩
    · refine iteF ?_
      refine ⟨_, rfl, t, _, _, _, rfl, rfl, SqT.of ht, atI_nat (j := 0) rfl, _, rfl, t, _, _, _, rfl, rfl, SqT.of ht, atI_nat (j := 1) rfl, _, rfl, (by show 3 ≤ sizeLine; decide), fun tt htt => ?_⟩
      have s5 := Same.new (o := .tup [vN s.fx, V.ref p, V.ref qa]) htt
      have c5 := c.mono s5
      exact qq tt p qa s sw _ (c.run s (.done (by rw [rd_len]; exact hu))) c5.same (c.same.none htt) upd_same c5.hp0 c5.hp c5.hq0 c5.hq c5.st c5.est (by have := c5.slen; omega) c5.npq
    · refine iteT ?_
      refine ⟨_, fun _ _ h => h, ?_⟩
      obtain ⟨r, er, erd, hu2, ebu, hR⟩ := uses_at (rs := rs) (u := u) (by rw [hu]; exact List.mem_cons_self ..) (hRs.same c.same)
      have ebv : (s.bs.map vN)[u.2]? = some (vN (s.bs.getD u.2 0)) := by rw [List.getElem?_map, ebu]; rfl
      have erv : (rs.map fun r => V.ref r.r)[u.1]? = some (V.ref r.r) := by rw [List.getElem?_map, er]; rfl
      refine ⟨_, rfl, .inl ⟨rfl, _, SqL.of c.hq⟩, _, rfl, t5, _, _, _, rfl, rfl, SqT.of ht5, atI_nat (j := 0) rfl, _, rfl, t, _, _, _, rfl, rfl, SqT.of ht, atI_nat (j := 1) rfl, _, rfl, t5, _, _, _, rfl, rfl, SqT.of ht5, atI_nat (j := 1) rfl, p, _, _, _, rfl, rfl, SqL.of c.hp, atI_nat ebv, (by show 2 ≤ sizeLine; decide), fun w hw => ?_⟩
      have sw1 := Same.new (o := .tup [vN u.1, vN (s.bs.getD u.2 0)]) hw
      have c1 := c.mono sw1
      have hw1 : (upd H4 w (.tup [vN u.1, vN (s.bs.getD u.2 0)])) w = some (.tup [vN u.1, vN (s.bs.getD u.2 0)]) := upd_same
      have ht1 := sw1 _ _ ht
      have ht51 := sw1 _ _ ht5
      generalize upd H4 w (.tup [vN u.1, vN (s.bs.getD u.2 0)]) = H5 at sw1 c1 hw1 ht1 ht51
      refine ⟨qa, _, _, rfl, rfl, c1.hq, (by rw [List.length_map]; exact small1000 (by have := c1.slen; omega)), ?_⟩
      have sq : Same H (upd H5 qa (.lst ((sw.map fun w => V.ref w.1) ++ [V.ref w]))) := c1.same.own c1.hq0
      have ht2 : (upd H5 qa (.lst ((sw.map fun w => V.ref w.1) ++ [V.ref w]))) t = some (.tup [vN s.fx, .ref p]) := by rw [upd_ne (ne_of ht1 c1.hq (by intro z; cases z))]; exact ht1
      have ht52 : (upd H5 qa (.lst ((sw.map fun w => V.ref w.1) ++ [V.ref w]))) t5 = some (.tup [vN u.1, vN u.2]) := by rw [upd_ne (ne_of ht51 c1.hq (by intro z; cases z))]; exact ht51
      have hp2 : (upd H5 qa (.lst ((sw.map fun w => V.ref w.1) ++ [V.ref w]))) p = some (.lst (s.bs.map vN)) := by rw [upd_ne c1.npq]; exact c1.hp
      have hdis : s.fx &&& s.bs.getD u.2 0 = 0 := c.good.dis _ (List.mem_of_getElem? ebu)
      refine ⟨_, rfl, _, rfl, t5, _, _, _, rfl, rfl, SqT.of ht52, atI_nat (j := 0) rfl, rl, _, _, _, rfl, rfl, sq.seq hrl, atI_nat erv, _, rfl, t, _, _, _, rfl, rfl, SqT.of ht2, atI_nat (j := 0) rfl, _, rfl, t, _, _, _, rfl, rfl, SqT.of ht2, atI_nat (j := 1) rfl, _, rfl, t5, _, _, _, rfl, rfl, SqT.of ht52, atI_nat (j := 1) rfl, r.r, p, r.st, r.x, r.y, s.fx, u.2, s.bs, rfl, sq _ _ (hRs r (List.mem_of_getElem? er)).1, SqL.of hp2, hu2, (by have := c.good.len m7; omega), hdis, fun t' p' H6 s6 ht' ht6 hp' hp6 => ?_⟩
      have efx : (stepS (rs.map Rl.d) s u).fx = behindFx r.st r.y s.fx s.bs u.2 := by unfold stepS; rw [erd]; rfl
      have ebs : (stepS (rs.map Rl.d) s u).bs = behindBs r.st r.y s.bs u.2 := by unfold stepS; rw [erd]; rfl
      rw [← efx] at ht6
      rw [← ebs] at hp6
      obtain ⟨c6, mu⟩ := c1.next (w := (w, (u.1, s.bs.getD u.2 0))) hu rfl hw1 s6 hp' hp6
      refine ⟨_, rfl, _, rfl, t', _, _, _, rfl, rfl, SqT.of ht6, atI_nat (j := 1) rfl, rl, p', rs, (stepS (rs.map Rl.d) s u).bs, m, rfl, c6.same.seq hrl, hRs.same c6.same, SqL.of c6.hp, lr, (by have := c6.good.len m7; omega), fun H7 s7 hu' => ?_, fun u' us' t5' H7 s7 hu' ht7 ht7' => ?_⟩
      · exact ⟨_, by rw [en]; exact mu, _, t', p', qa, _, .non, rfl, rfl, s7 _ _ ht6, c6.mono s7, .inl ⟨hu', rfl⟩⟩
      · exact ⟨_, by rw [en]; exact mu, _, t', p', qa, _, .ref t5', rfl, rfl, s7 _ _ ht6, c6.mono s7, .inr ⟨u', us', t5', hu', rfl, ht7'⟩⟩
noncomputable abbrev sTorn : Stmt := top 35
theorem scTorn : FnScope ["blocks", "one", "other", "block"] ["blocks", "one", "other"] (defScope sTorn) := ⟨rfl, rfl, rfl, by decide +kernel, rfl, by decide +kernel, by decide +kernel⟩
theorem ok_torn {f fIW : Addr} {fd fdIW : FuncData} (F : Fun K "first_torn" "first_torn" sTorn f fd) (GIW : FnOk P w K mg base CX0 1 fIW fdIW ["one", "other"] spWithin) (mIW : mg "is_within" = some (.ref fIW)) (kIW : PySem.W.keepIn K (.ref fIW) = true) (bIW : Binds K fdIW ["one", "other"] []) : FnOk P w K mg base CX0 2 f fd ["blocks", "one", "other"] (spTorn K) := by
  refine F.ok scTorn (fun vs H Q E h => ?_) (fun cdv A outer s H vs Q E hr h => ?_)
  · obtain ⟨l, x, y, bs, rfl, _⟩ := h
    rfl
  · obtain ⟨l, x, y, bs, rfl, hl, qn, qs⟩ := h
    have nd := scTorn.nd
    have hr1 : Room 1 _ := hr.mono (by decide)
    refine ⟨_, (pss_cons (ps_for PassesOwn.never rfl (pi_listK (K := K) rfl (pv 0)) (pg_name (i := 3) nd rfl (Or.inl rfl)) (pss_one (ps_if (PW.pt (pw_and (pt_not (pt_val (pe_call GIW hr1 rfl mIW kIW bIW .nil pass0 (pa_cons (pv 3) (pa_cons (pv 1) pa_nil))))) (pw_and1 (pt_not (pt_val (pe_call GIW hr1 rfl mIW kIW bIW .nil pass0 (pa_cons (pv 3) (pa_cons (pv 2) pa_nil)))))))) (pss_one (ps_ret (pv 3))) pss_nil)))
      (pss_one (ps_ret pe_non))), ?_⟩
    refine ⟨_, rfl, l, rfl, ⟨_, hl⟩, for_list (xs := bs.map vN) (fun i σ H' => (∃ v3, σ = [some (.ref l), some (vN x), some (vN y), v3]) ∧ H' = H ∧ (bs.take i).find? (tornB x y) = none) ⟨⟨none, rfl⟩, rfl, rfl⟩ (fun i σ H' _ h => by rw [h.2.1]; exact hl) ?_ ?_⟩
    · rintro i v σ H' hv ⟨⟨v3, rfl⟩, rfl, hn⟩
      rw [List.getElem?_map] at hv
      cases eb : bs[i]? with
      | none => rw [eb] at hv; cases hv
      | some b =>
        rw [eb] at hv
        obtain rfl := (Option.some.inj hv).symm
        refine ⟨_, rfl, _, rfl, b, x, rfl, _, rfl, ?_⟩
        cases c1 : decide (b &&& x = b) with
        | true =>
          refine iteF (iteF ⟨⟨_, rfl⟩, rfl, find_miss hn eb ?_⟩)
          unfold tornB; rw [c1]; exact Bool.false_ne_true
        | false =>
          refine iteT ?_
          refine ⟨_, rfl, _, rfl, b, y, rfl, _, rfl, ?_⟩
          cases c2 : decide (b &&& y = b) with
          | true =>
            refine iteF ⟨⟨_, rfl⟩, rfl, find_miss hn eb ?_⟩
            unfold tornB; rw [c1, c2]; exact Bool.false_ne_true
          | false =>
            refine iteT ⟨_, rfl, qs b (find_hit hn eb ?_)⟩
            unfold tornB; rw [c1, c2]; rfl
    · rintro σ H' ⟨⟨v3, rfl⟩, rfl, hn⟩
      rw [List.length_map, List.take_length] at hn
      exact qn hn
noncomputable abbrev sCutIn : Stmt := top 36
theorem scCutIn : FnScope ["many", "rules", "one", "other", "told", "block"] ["many", "rules", "one", "other"] (defScope sCutIn) := ⟨rfl, rfl, rfl, by decide +kernel, rfl, by decide +kernel, by decide +kernel⟩
theorem ok_cutin {f fIW fAL fUN fFT : Addr} {fd fdIW fdAL fdUN fdFT : FuncData} (F : Fun K "cut_in_two" "cut_in_two" sCutIn f fd) (GIW : FnOk P w K mg base CX0 1 fIW fdIW ["one", "other"] spWithin) (mIW : mg "is_within" = some (.ref fIW)) (kIW : PySem.W.keepIn K (.ref fIW) = true) (bIW : Binds K fdIW ["one", "other"] []) (GAL : FnOk P w K mg base CX0 1 fAL fdAL ["many"] spAllOf) (mAL : mg "all_of" = some (.ref fAL)) (kAL : PySem.W.keepIn K (.ref fAL) = true) (bAL : Binds K fdAL ["many"] []) (GUN : FnOk P w K mg base CX0 3 fUN fdUN ["many", "rules", "some"] (spUnfolded K)) (mUN : mg "unfolded" = some (.ref fUN)) (kUN : PySem.W.keepIn K (.ref fUN) = true) (bUN : Binds K fdUN ["many", "rules", "some"] []) (GFT : FnOk P w K mg base CX0 2 fFT fdFT ["blocks", "one", "other"] (spTorn K)) (mFT : mg "first_torn" = some (.ref fFT)) (kFT : PySem.W.keepIn K (.ref fFT) = true) (bFT : Binds K fdFT ["blocks", "one", "other"] []) : FnOk P w K mg base CX0 4 f fd ["many", "rules", "one", "other"] (spCut K vN) := by
  refine F.ok scCutIn (fun vs H Q E h => ?_) (fun cdv A outer s H vs Q E hr h => ?_)
  · obtain ⟨m, x, y, rl, rs, rfl, _⟩ := h
    rfl
  · obtain ⟨m, x, y, rl, rs, rfl, m7, hx, hy, hxy, hrl, hRs, lr, qq⟩ := h
    have nd := scCutIn.nd
    have hr1 : Room 1 _ := hr.mono (by decide)
    have hr2 : Room 2 _ := hr.mono (by decide)
    have hr3 : Room 3 _ := hr.mono (by decide)
    have hxa : x &&& y < 2 ^ m := Nat.lt_of_le_of_lt Nat.and_le_left hx
    refine ⟨_, (pss_cons (ps_if (pt_not (pt_val (pe_call GIW hr1 rfl mIW kIW bIW .nil pass0 (pa_cons (pe_call GAL hr1 rfl mAL kAL bAL .nil pass0 (pa_cons (pv 0) pa_nil)) (pa_cons (pe_op op_orN (pv 2) (pv 3)) pa_nil))))) (pss_one ps_never) pss_nil)
      (pss_cons (ps_set (i := 4) nd rfl (Or.inl rfl) (pe_call GUN hr3 rfl mUN kUN bUN .nil pass0 (pa_cons (pv 0) (pa_cons (pv 1) (pa_cons (pe_op op_andN (pv 2) (pv 3)) pa_nil)))))
      (pss_cons (ps_set (i := 5) nd rfl (Or.inl rfl) (pe_call GFT hr2 rfl mFT kFT bFT .nil pass0 (pa_cons (pe_ix (ix_tupK (K := K) rfl) (pv 4) pe_int (fun _ _ => rfl)) (pa_cons (pv 2) (pa_cons (pv 3) pa_nil)))))
      (pss_cons (ps_if (pt_cmpR op_isN (pv 5) pe_non (nomark _)) (pss_one (ps_ret (pe_tup (pa_cons pe_str (pa_cons (pe_ix (ix_tupK (K := K) rfl) (pv 4) pe_int (fun _ _ => rfl)) pa_nil))))) pss_nil)
      (pss_one (ps_ret (pe_tup (pa_cons pe_str (pa_cons (pv 5) pa_nil))))))))), ?_⟩
    refine ⟨_, rfl, m, rfl, by omega, _, rfl, _, rfl, x, y, rfl, rfl, 2 ^ m - 1, x ||| y, rfl, _, rfl, ?_⟩
    rw [hxy, Nat.and_self, decide_eq_true rfl]
    refine iteF ?_
    refine ⟨_, rfl, _, rfl, _, rfl, _, rfl, x, y, rfl, rfl, m, x &&& y, rl, rs, rfl, m7, hxa, hrl, hRs, lr, fun t p qa s sw H1 R s1 ht ht1 hp hp1 hq hq1 st1 e1 l1 n1 => ?_⟩
    refine ⟨_, rfl, t, _, _, _, rfl, rfl, SqT.of ht1, atI_nat (j := 1) rfl, _, rfl, _, rfl, p, x, y, s.bs, rfl, SqL.of hp1, fun hn => ?_, fun b hb => ?_⟩
    · refine ⟨_, rfl, rfl, _, rfl, ?_⟩
      refine iteT ?_
      refine ⟨_, rfl, t, _, _, _, rfl, rfl, SqT.of ht1, atI_nat (j := 2) rfl, (by show 2 ≤ sizeLine; decide), fun t2 ht2 => ?_⟩
      have s2 := Same.new (o := .tup [V.str "safe", V.ref qa]) ht2
      refine qq s t2 _ R (s1.trans s2) (.inr ⟨hn, qa, sw, s2 _ _ hq1, st1.same s2, e1, l1, upd_same⟩) fun q' z => ?_
      rw [upd_same] at z
      injection z with z
      injection z with z
      injection z with _ z
      injection z with z _
      injection z with z
      rw [← z]; exact hq
    · refine ⟨_, rfl, rfl, _, rfl, ?_⟩
      refine iteF ?_
      refine ⟨_, rfl, (by show 2 ≤ sizeLine; decide), fun t2 ht2 => ?_⟩
      refine qq s t2 _ R (s1.trans (Same.new ht2)) (.inl ⟨b, hb, upd_same⟩) fun q' z => ?_
      rw [upd_same] at z
      injection z with z
      injection z with z
      injection z with z
      injection z with z
      exact absurd z (by decide)
theorem ok_cutX {f fIW fAL CCN : Addr} {fd fdIW fdAL : FuncData} (F : Fun K "cut_in_two" "cut_in_two" sCutIn f fd) (GIW : FnOk P w K mg base CX0 1 fIW fdIW ["one", "other"] spWithin) (mIW : mg "is_within" = some (.ref fIW)) (kIW : PySem.W.keepIn K (.ref fIW) = true) (bIW : Binds K fdIW ["one", "other"] []) (GAL : FnOk P w K mg base CX0 1 fAL fdAL ["many"] spAllOf) (mAL : mg "all_of" = some (.ref fAL)) (kAL : PySem.W.keepIn K (.ref fAL) = true) (bAL : Binds K fdAL ["many"] []) (OCN : Exc K "NoCut" CCN) : FnOk P w K mg base (CX1 P w) 4 f fd ["many", "rules", "one", "other"] (spCutX CCN) := by
  refine F.ok1 scCutIn (fun vs H Q E h => ?_) (fun cdv A outer s H vs Q E hr h => ?_)
  · obtain ⟨m, x, y, rl, rfl, _⟩ := h
    rfl
  · obtain ⟨m, x, y, rl, rfl, m7, hxy, qe⟩ := h
    have hr1 : Room 1 _ := hr.mono (by decide)
    refine ⟨_, (pss_cons (ps_if (pt_not (pt_val (pe_call GIW hr1 rfl mIW kIW bIW .nil pass0 (pa_cons (pe_call GAL hr1 rfl mAL kAL bAL .nil pass0 (pa_cons (pv 0) pa_nil)) (pa_cons (pe_op op_orN (pv 2) (pv 3)) pa_nil))))) (pss_one (ps_raise (EX := E) OCN (by rfl) rfl (pa_cons pe_str pa_nil) (fun _ _ _ _ _ _ _ I hx hE => raise_out I hx hE))) pss_nil) pss_dead), ?_⟩
    refine ⟨_, rfl, m, rfl, by omega, _, rfl, _, rfl, x, y, rfl, rfl, 2 ^ m - 1, x ||| y, rfl, _, rfl, ?_⟩
    rw [decide_eq_false (not_full hxy)]
    refine iteT ?_
    exact ⟨(by show 1 ≤ sizeLine; decide), qe⟩
end
end Own

namespace Own
open PySem L2
section
variable {P : Program} {w : World} {K : PySem.W.Frag} {mg : Str → Option Value} {base : Heap}
seal PySem.wpAny
noncomputable abbrev sTake : Stmt := top 38
theorem scTake : FnScope ["_law_state", "_law_most", "_law_script", "_law_at", "_law_number"] ["_law_state", "_law_most"] (defScope sTake) := ⟨rfl, rfl, rfl, by decide +kernel, rfl, by decide +kernel, by decide +kernel⟩
theorem ok_take {f : Addr} {fd : FuncData} (F : Fun K "_law_take" "_law_take" sTake f fd) (zLen : mg "len" = none) : FnOk P w K mg base CX0 1 f fd ["_law_state", "_law_most"] (spTakeF K) := by
  refine F.ok scTake (fun vs H Q E h => ?_) (fun cdv A outer s H vs Q E hr h => ?_)
  · obtain ⟨st, ns, k, most, rfl, _⟩ := h
    rfl
  · obtain ⟨st, ns, k, most, rfl, ⟨sc, hst, hscF⟩, hk, hl, hm, q⟩ := h
    have nd := scTake.nd
    refine ⟨_, pss_cons (ps_asg (pv 0) (pg_lst rfl (pgs_cons (pg_name (i := 2) nd rfl (Or.inl rfl)) (pgs_cons (pg_name (i := 3) nd rfl (Or.inl rfl)) pgs_nil))))
      (pss_cons (ps_asg (pe_op op_add (pv 3) pe_int) (pg_sub (pv 0) pe_int set_list))
      (pss_cons (ps_if (pt_cmpR op_lt (pv 3) (pe_callB call_len_seq (by rfl) zLen PySem.boot_len (pa_cons (pv 2) pa_nil)) (nomark _))
        (pss_one (ps_ret (pe_op op_mod (pe_ix ix_list (pv 2) (pv 3) (fun _ _ => rfl)) (pv 1)))) pss_nil)
      (pss_cons (ps_set (i := 4) nd rfl (Or.inl rfl) (pe_op op_add (pe_op op_add (pe_op op_mul (pe_op op_mul (pv 3) (pv 3)) pe_int) (pe_op op_mul pe_int (pv 3))) pe_int))
      (pss_cons (ps_if (pt_cmpR op_gt (pe_callB call_len_seq (by rfl) zLen PySem.boot_len (pa_cons (pv 2) pa_nil)) pe_int (nomark _))
        (pss_one (ps_set (i := 4) nd rfl (Or.inl rfl) (pe_op op_add (pv 4) (pe_op op_mul (pe_op op_mod (pe_ix ix_list (pv 2) (pe_op op_mod (pe_op op_mul (pv 3) pe_int) (pe_callB call_len_seq (by rfl) zLen PySem.boot_len (pa_cons (pv 2) pa_nil))) (fun _ _ => rfl)) pe_int) (pe_op op_add (pv 3) pe_int))))) pss_nil)
      (pss_one (ps_ret (pe_op op_mod (pe_op op_mod (pe_op op_mul (pe_op op_mod (pe_op op_mul (pv 4) pe_int) pe_int) (pe_op op_add (pe_op op_mod (pv 4) pe_int) pe_int)) pe_int) (pv 1)))))))), ?_⟩
    refine ⟨_, rfl, st, _, rfl, SqL.of hst, rfl, _, _, rfl, _, _, rfl, rfl, ?_⟩
    refine ⟨_, rfl, _, _, rfl, rfl, _, rfl, st, _, 1, 1, rfl, rfl, hst, rfl, ?_⟩
    have bt : But st H (upd H st (.lst [.ref sc, .int ((k : Int) + 1)])) := But.put st H _
    have hscF' : SqF K (upd H st (.lst [.ref sc, .int ((k : Int) + 1)])) sc ns := STF.seq hst hscF bt
    have hsc' := hscF'.sq
    have s' : L2.STF K (upd H st (.lst [.ref sc, .int ((k : Int) + 1)])) st ns (k + 1) := ⟨sc, by rw [upd_same]; rfl, hscF'⟩
    refine ⟨_, rfl, _, rfl, sc, _, rfl, .inl hsc', _, _, rfl, rfl, _, rfl, ?_⟩
    have len1 : (ns.map V.int).length = ns.length := List.length_map ..
    refine ite2 (fun hc => ?_) (fun hc => ?_)
    · have hlt : k < ns.length := by
        have := of_decide_eq_true hc
        rw [len1] at this
        omega
      refine ⟨_, rfl, _, rfl, sc, _, _, _, rfl, rfl, hsc', atI_nat (j := k) (v := V.int ns[k]) (by simp [hlt]), _, rfl, _, _, rfl, rfl, hm, ?_⟩
      exact q _ _ (mod_lo _ hm) (mod_hi _ hm) s' bt
    · refine ⟨_, rfl, _, rfl, _, _, rfl, rfl, .inl ⟨by omega, by omega⟩, _, _, rfl, rfl, .inr ⟨by decide, by decide⟩, _, rfl, _, _, rfl, rfl, .inl ⟨by decide, by decide⟩, _, _, rfl, rfl, _, _, rfl, rfl, ?_⟩
      refine ⟨_, rfl, sc, _, rfl, .inl hsc', _, _, rfl, rfl, _, rfl, ?_⟩
      have fin : ∀ z : Int, (tRet (tOp (rI (fun _ j => 0 < j) fun i j => V.int (i % j)) (tOp (rI (fun _ j => 0 < j) fun i j => V.int (i % j)) (tOp (rI CMul fun i j => V.int (i * j)) (tOp (rI (fun _ j => 0 < j) fun i j => V.int (i % j)) (tOp (rI CMul fun i j => V.int (i * j)) (tVar 4) (tC (.int 48271))) (tC (.int 2147483629)))
          (tOp (rI0 fun i j => V.int (i + j)) (tOp (rI (fun _ j => 0 < j) fun i j => V.int (i % j)) (tVar 4) (tC (.int 65521))) (tC (.int 3)))) (tC (.int 999999937))) (tVar 1)))
          { nx := fun _ H' => Q .non H', rt := Q } [some (.ref st), some (.int most), some (.ref sc), some (.int k), some (.int z)] (upd H st (.lst [.ref sc, .int ((k : Int) + 1)])) := fun z => by
        refine ⟨_, rfl, _, _, rfl, rfl, .inr ⟨by decide, by decide⟩, _, _, rfl, rfl, (by show (0 : Int) < _; decide), _, rfl, _, _, rfl, rfl, (by show (0 : Int) < _; decide), _, _, rfl, rfl, _, _, rfl, rfl, .inl ⟨?_, ?_⟩, _, _, rfl, rfl, (by show (0 : Int) < _; decide), _, rfl, _, _, rfl, rfl, hm, ?_⟩
        · have := mod_lo (z * 48271) (show (0 : Int) < 2147483629 by decide); omega
        · have := mod_hi (z * 48271) (show (0 : Int) < 2147483629 by decide); omega
        · exact q _ _ (mod_lo _ hm) (mod_hi _ hm) s' bt
      refine ite2 (fun hc2 => ?_) (fun hc2 => ?_)
      · have hpos : 0 < ns.length := by
          have := of_decide_eq_true hc2
          rw [len1] at this
          omega
        have hp' : (0 : Int) < ((ns.map V.int).length : Int) := by rw [len1]; omega
        have ix : ∃ j : Nat, ((k : Int) * 3 % ((ns.map V.int).length : Int)) = (j : Int) ∧ j < ns.length := by
          have h1 := mod_lo ((k : Int) * 3) hp'
          have h2 := mod_hi ((k : Int) * 3) hp'
          rw [len1] at h2
          refine ⟨((k : Int) * 3 % ((ns.map V.int).length : Int)).toNat, by omega, ?_⟩
          rw [len1]
          rw [len1] at h1
          omega
        obtain ⟨j, ej, hj⟩ := ix
        refine ⟨_, rfl, _, rfl, _, rfl, _, _, rfl, rfl, .inr ⟨by decide, by decide⟩, _, rfl, sc, _, rfl, .inl hsc', _, _, rfl, rfl, hp', sc, _, _, _, rfl, rfl, hsc', (by rw [ej]; exact atI_nat (j := j) (v := V.int ns[j]) (by simp [hj])), _, _, rfl, rfl, (by show (0 : Int) < _; decide), _, rfl, _, _, rfl, rfl, _, _, rfl, rfl, .inl ⟨?_, ?_⟩, _, _, rfl, rfl, ?_⟩
        · have := mod_lo ns[j] (show (0 : Int) < 2147483563 by decide); omega
        · have := mod_hi ns[j] (show (0 : Int) < 2147483563 by decide); omega
        · exact fin _
      · exact fin _
noncomputable abbrev sThin : Stmt := top 39
theorem scThin : FnScope ["_law_state", "_law_many", "_law_some"] ["_law_state", "_law_many"] (defScope sThin) := ⟨rfl, rfl, rfl, by decide +kernel, rfl, by decide +kernel, by decide +kernel⟩
theorem ok_thin {f fT : Addr} {fd fdT : FuncData} (F : Fun K "_law_thin" "_law_thin" sThin f fd) (GT : FnOk P w K mg base CX0 1 fT fdT ["_law_state", "_law_most"] (spTakeF K)) (mT : mg "_law_take" = some (.ref fT)) (kT : PySem.W.keepIn K (.ref fT) = true) (bT : Binds K fdT ["_law_state", "_law_most"] []) : FnOk P w K mg base CX0 2 f fd ["_law_state", "_law_many"] (spThin K) := by
  refine F.ok scThin (fun vs H Q E h => ?_) (fun cdv A outer s H vs Q E hr h => ?_)
  · obtain ⟨st, ns, k, m, rfl, _⟩ := h
    rfl
  · obtain ⟨st, ns, k, m, rfl, S, hk, hl, m1, m7, q⟩ := h
    have nd := scThin.nd
    have hr1 : Room 1 _ := hr.mono (by decide)
    have pw0 : 0 < 2 ^ m := Nat.two_pow_pos m
    refine ⟨_, (pss_cons (ps_set (i := 2) nd rfl (Or.inl rfl) (pe_op op_andN (pe_call GT hr1 rfl mT kT bT .nil pass0 (pa_cons (pv 0) (pa_cons (pe_op op_shl1 pe_int (pv 1)) pa_nil))) (pe_call GT hr1 rfl mT kT bT .nil pass0 (pa_cons (pv 0) (pa_cons (pe_op op_shl1 pe_int (pv 1)) pa_nil)))))
      (pss_cons (ps_if (pt_cmpR op_eqN (pe_call GT hr1 rfl mT kT bT .nil pass0 (pa_cons (pv 0) (pa_cons pe_int pa_nil))) pe_int (nomark _)) (pss_one (ps_ret (pe_op op_andN (pv 2) (pe_call GT hr1 rfl mT kT bT .nil pass0 (pa_cons (pv 0) (pa_cons (pe_op op_shl1 pe_int (pv 1)) pa_nil)))))) pss_nil)
      (pss_one (ps_ret (pv 2))))), ?_⟩
    refine ⟨_, rfl, _, rfl, m, rfl, rfl, by omega, st, ns, k, ((2 ^ m : Nat) : Int), rfl, S, by omega, hl, by omega, fun r1 H1 a1 b1 S1 B1 => ?_⟩
    obtain ⟨x1, rfl, h1⟩ := nat_of a1 b1
    refine ⟨_, rfl, _, rfl, m, rfl, rfl, by omega, st, ns, k + 1, ((2 ^ m : Nat) : Int), rfl, S1, by omega, hl, by omega, fun r2 H2 a2 b2 S2 B2 => ?_⟩
    obtain ⟨x2, rfl, h2⟩ := nat_of a2 b2
    have h12 : x1 &&& x2 < 2 ^ m := Nat.lt_of_le_of_lt Nat.and_le_left h1
    refine ⟨x1, x2, rfl, rfl, ?_⟩
    refine ⟨_, rfl, st, ns, k + 2, 3, rfl, S2, by omega, hl, by decide, fun r3 H3 a3 b3 S3 B3 => ?_⟩
    obtain ⟨x3, rfl, h3⟩ := nat_of (n := 3) a3 b3
    have B03 := (B1.trans B2).trans B3
    refine ⟨x3, 0, rfl, rfl, _, rfl, ite2 (fun _ => ?_) (fun _ => ⟨_, rfl, q (x1 &&& x2) (k + 3) H3 h12 (by omega) S3 B03⟩)⟩
    refine ⟨_, rfl, _, rfl, _, rfl, m, rfl, rfl, by omega, st, ns, k + 3, ((2 ^ m : Nat) : Int), rfl, S3, by omega, hl, by omega, fun r4 H4 a4 b4 S4 B4 => ?_⟩
    obtain ⟨x4, rfl, h4⟩ := nat_of a4 b4
    exact ⟨x1 &&& x2, x4, rfl, rfl, q _ (k + 4) H4 (Nat.lt_of_le_of_lt Nat.and_le_left h12) (by omega) S4 (B03.trans B4)⟩
noncomputable abbrev sTRules : Stmt := top 40
theorem scTRules : FnScope ["_law_state", "_law_many", "_law_rules_here", "_law_k", "_law_word", "_law_left", "_law_right", "_law_way"] ["_law_state", "_law_many"] (defScope sTRules) := ⟨rfl, rfl, rfl, by decide +kernel, rfl, by decide +kernel, by decide +kernel⟩
theorem ok_trules {f fT fTH : Addr} {fd fdT fdTH : FuncData} (F : Fun K "_law_rules" "_law_rules" sTRules f fd) (GT : FnOk P w K mg base CX0 1 fT fdT ["_law_state", "_law_most"] (spTakeF K)) (mT : mg "_law_take" = some (.ref fT)) (kT : PySem.W.keepIn K (.ref fT) = true) (bT : Binds K fdT ["_law_state", "_law_most"] []) (GTH : FnOk P w K mg base CX0 2 fTH fdTH ["_law_state", "_law_many"] (spThin K)) (mTH : mg "_law_thin" = some (.ref fTH)) (kTH : PySem.W.keepIn K (.ref fTH) = true) (bTH : Binds K fdTH ["_law_state", "_law_many"] []) (zrange : mg "range" = none) (zlen : mg "len" = none) : FnOk P w K mg base CX0 3 f fd ["_law_state", "_law_many"] (spTRules K) := by
  refine F.ok scTRules (fun vs H Q E h => ?_) (fun cdv A outer s H vs Q E hr h => ?_)
  · obtain ⟨st, ns, k, m, rfl, _⟩ := h
    rfl
  · obtain ⟨st, ns, k, m, rfl, S, hk, hl, m1, m7, q⟩ := h
    have nd := scTRules.nd
    have hr1 : Room 1 _ := hr.mono (by decide)
    have hr2 : Room 2 _ := hr.mono (by decide)
    have pw0 : 0 < 2 ^ m := Nat.two_pow_pos m
    refine ⟨_, (pss_cons (ps_set (i := 2) nd rfl (Or.inl rfl) (pe_lst pa_nil))
      (pss_cons (ps_for PassesOwn.never rfl (pi_range1 rfl zrange (pa_cons (pe_call GT hr1 rfl mT kT bT .nil pass0 (pa_cons (pv 0) (pa_cons (pe_ix (ix_listK (K := K) rfl) (pe_lst (pa_cons pe_int (pa_cons pe_int (pa_cons pe_int pa_nil)))) (pe_call GT hr1 rfl mT kT bT .nil pass0 (pa_cons (pv 0) (pa_cons pe_int pa_nil))) (fun _ _ => rfl)) pa_nil))) pa_nil)) (pg_name (i := 3) nd rfl (Or.inl rfl)) (pss_cons (ps_set (i := 4) nd rfl (Or.inl rfl) (pe_ix (ix_listK (K := K) rfl) (pe_lst (pa_cons pe_str (pa_cons pe_str pa_nil))) (pe_call GT hr1 rfl mT kT bT .nil pass0 (pa_cons (pv 0) (pa_cons pe_int pa_nil))) (fun _ _ => rfl)))
      (pss_cons (ps_set (i := 5) nd rfl (Or.inl rfl) (pe_call GTH hr2 rfl mTH kTH bTH .nil pass0 (pa_cons (pv 0) (pa_cons (pv 1) pa_nil))))
      (pss_cons (ps_set (i := 6) nd rfl (Or.inl rfl) (pe_call GT hr1 rfl mT kT bT .nil pass0 (pa_cons (pv 0) (pa_cons (pe_op op_shl1 pe_int (pv 1)) pa_nil))))
      (pss_cons (ps_set (i := 7) nd rfl (Or.inl rfl) (pe_call GT hr1 rfl mT kT bT .nil pass0 (pa_cons (pv 0) (pa_cons pe_int pa_nil))))
      (pss_one (ps_if (PW.pt (pw_and (pt_cmpR op_eqN (pv 7) pe_int (nomark _)) (pw_and1 (pt_cmpR (op_neD (K := K) rfl hr.units) (pv 2) (pe_lst pa_nil) (nomark _))))) (pss_one (ps_expr (pe_bm PySem.F.plainAttrs_list PySem.F.slot_list_append PySem.F.type_list_append mt_append (pv 2) (pa_cons (pe_ix (ix_listK (K := K) rfl) (pv 2) (pe_call GT hr1 rfl mT kT bT .nil pass0 (pa_cons (pv 0) (pa_cons (pe_callB (call_lenK (K := K) rfl) (by rfl) zlen PySem.boot_len (pa_cons (pv 2) pa_nil)) pa_nil))) (fun _ _ => rfl)) pa_nil)))) (pss_one (ps_if (pt_cmpR op_ltN (pv 7) pe_int (nomark _)) (pss_one (ps_expr (pe_bm PySem.F.plainAttrs_list PySem.F.slot_list_append PySem.F.type_list_append mt_append (pv 2) (pa_cons (pe_tup (pa_cons (pv 4) (pa_cons (pv 5) (pa_cons (pe_op op_andN (pv 6) (pe_call GT hr1 rfl mT kT bT .nil pass0 (pa_cons (pv 0) (pa_cons (pe_op op_shl1 pe_int (pv 1)) pa_nil)))) pa_nil)))) pa_nil)))) (pss_one (ps_expr (pe_bm PySem.F.plainAttrs_list PySem.F.slot_list_append PySem.F.type_list_append mt_append (pv 2) (pa_cons (pe_tup (pa_cons (pv 4) (pa_cons (pv 5) (pa_cons (pv 6) pa_nil)))) pa_nil)))))))))))))
      (pss_one (ps_ret (pv 2))))), ?_⟩
    refine ⟨Nat.zero_le _, fun g hg => ?_⟩
    obtain ⟨hgH, hgs⟩ := stf_fresh S (But.refl _ _) hg
    have R0 : PR K H st ns m g [] k (upd H g (.lst [])) := ⟨fun r h => absurd h List.not_mem_nil, upd_same, S.new hg, But.new hg, hgH, hgs⟩
    refine ⟨_, rfl, (by show 3 ≤ sizeLine; decide), fun l hl1 => ?_⟩
    have R1 := R0.new (o := .lst [vN 3, vN 5, vN 13]) hl1
    have hls := (stf_fresh R0.S (But.refl _ _) hl1).2
    refine ⟨_, rfl, st, ns, k, 3, rfl, R1.S, by omega, hl, by decide, fun r1 H1 a1 b1 S1 B1 => ?_⟩
    obtain ⟨n1, rfl, hn1⟩ := nat_of (n := 3) a1 b1
    have hl2 := B1 _ _ (upd_same (H := upd H g (.lst [])) (a := l) (o := .lst [vN 3, vN 5, vN 13])) hls
    have R2 := R1.take S1 B1
    obtain ⟨w, ew, hw0, hw⟩ : ∃ w : Nat, ([vN 3, vN 5, vN 13] : List V)[n1]? = some (vN w) ∧ 0 < w ∧ w ≤ 13 := by
      match n1, hn1 with
      | 0, _ => exact ⟨3, rfl, by decide, by decide⟩
      | 1, _ => exact ⟨5, rfl, by decide, by decide⟩
      | 2, _ => exact ⟨13, rfl, by decide, by decide⟩
    refine ⟨l, _, _, _, rfl, rfl, SqL.of hl2, atI_nat ew, st, ns, k + 1, (w : Int), rfl, S1, by omega, hl, by omega, fun r2 H2 a2 b2 S2 B2 => ?_⟩
    obtain ⟨n2, rfl, hn2⟩ := nat_of a2 b2
    have R3 := R2.take S2 B2
    refine ⟨(n2 : Int), rfl, by omega, by omega, for_rangeN (n := n2) (fun i σ H3 => (∃ v3 v4 v5 v6 v7, σ = [some (.ref st), some (vN m), some (.ref g), v3, v4, v5, v6, v7]) ∧ ∃ (rs : List Rl) (k3 : Nat), PR K H st ns m g rs k3 H3 ∧ rs.length ≤ i ∧ k3 ≤ k + 2 + 8 * i) ⟨⟨_, _, _, _, _, rfl⟩, [], k + 2, R3, Nat.le_refl _, Nat.le_refl _⟩ ?_ ?_⟩
    · clear R0 R1 R2 R3 hl2 B1 S1 B2 S2 hg
      rintro i σ H3 hi ⟨⟨v3, v4, v5, v6, v7, rfl⟩, rs, k3, R, hrl, hk3⟩
      refine ⟨(by show 2 ≤ sizeLine; decide), fun l4 hl4 => ?_⟩
      have hls4 := (stf_fresh R.S R.B hl4).2
      have R' := R.new (o := .lst [V.str "settle", V.str "deal"]) hl4
      refine ⟨_, rfl, st, ns, k3, 2, rfl, R'.S, by omega, hl, by decide, fun r4 H4 a4 b4 S4 B4 => ?_⟩
      obtain ⟨n4, rfl, hn4⟩ := nat_of (n := 2) a4 b4
      have hl5 := B4 _ _ (upd_same (H := H3) (a := l4) (o := .lst [V.str "settle", V.str "deal"])) hls4
      obtain ⟨sb, esb⟩ : ∃ sb : Bool, ([V.str "settle", V.str "deal"] : List V)[n4]? = some (V.str (wordS sb)) := by
        match n4, hn4 with
        | 0, _ => exact ⟨true, rfl⟩
        | 1, _ => exact ⟨false, rfl⟩
      have R4 := R'.take S4 B4
      refine ⟨l4, _, _, _, rfl, rfl, SqL.of hl5, atI_nat esb, ?_⟩
      refine ⟨_, rfl, _, rfl, st, ns, k3 + 1, m, rfl, S4, by omega, hl, m1, m7, fun x k5 H5 hx hk5 S5 B5 => ?_⟩
      have R5 := R4.take S5 B5
      refine ⟨_, rfl, _, rfl, m, rfl, rfl, by omega, st, ns, k5, ((2 ^ m : Nat) : Int), rfl, S5, by omega, hl, by omega, fun r6 H6 a6 b6 S6 B6 => ?_⟩
      obtain ⟨y, rfl, hy⟩ := nat_of a6 b6
      have R6 := R5.take S6 B6
      refine ⟨_, rfl, st, ns, k5 + 1, 9, rfl, S6, by omega, hl, by decide, fun r7 H7 a7 b7 S7 B7 => ?_⟩
      obtain ⟨wy, rfl, hwy⟩ := nat_of (n := 9) a7 b7
      have R7 := R6.take S7 B7
      clear R' R4 R5 R6 hl5 R hls4
      have lrs : rs.length ≤ 12 := by omega
      refine ⟨_, rfl, wy, 0, rfl, rfl, _, rfl, ite2 (fun _ => ?_) (fun _ => iteF ?_)⟩
      · refine ⟨_, rfl, Nat.zero_le _, fun el hel => ?_⟩
        have R8 := R7.new (o := .lst []) hel
        refine ⟨.list ((rs.map Rl.d).map dR), .list (([] : List RD).map dR), DV.lst (SqL.of R8.hg) (rules_dv R8.at_), DV.lst (SqL.of upd_same) .nil, shaped_map canLay_dR depth_dR _, shaped_map canLay_dR depth_dR _, noMix_list noMix_dR _ _, _, rfl, ite2 (fun hc => ?_) (fun _ => ?_)⟩
        · rw [if_pos rfl, same_list same_dR] at hc
          have hpos : 0 < rs.length := by
            cases rs with
            | nil => rw [List.map_nil, decide_eq_true rfl] at hc; cases hc
            | cons r rs => exact Nat.succ_pos _
          have hposm : 0 < (rs.map fun (r : Rl) => V.ref r.r).length := by rw [List.length_map]; exact hpos
          refine ⟨_, rfl, .inl ⟨rfl, _, SqL.of R8.hg⟩, _, rfl, _, rfl, _, rfl, g, _, rfl, .inl (SqL.of R8.hg), st, ns, k5 + 2, (((rs.map fun (r : Rl) => V.ref r.r).length : Nat) : Int), rfl, R8.S, by omega, hl, by omega, fun r9 H9 a9 b9 S9 B9 => ?_⟩
          obtain ⟨j, rfl, hj⟩ := nat_of a9 b9
          rw [List.length_map] at hj
          have R9 := R8.take S9 B9
          have erj : rs[j]? = some rs[j] := List.getElem?_eq_getElem hj
          refine ⟨g, _, _, _, rfl, rfl, SqL.of R9.hg, atI_nat (v := V.ref rs[j].r) (by rw [List.getElem?_map, erj]; rfl), ?_⟩
          refine ⟨g, _, _, rfl, rfl, R9.hg, by rw [List.length_map]; exact small1000 (by omega), ⟨_, _, _, _, _, rfl⟩, rs ++ [rs[j]], k5 + 3, R9.put (fun r hr' => ?_) (by rw [List.map_append]; rfl), by rw [List.length_append]; show _ + 1 ≤ _; omega, by omega⟩
          rcases List.mem_append.mp hr' with hr' | hr'
          · exact R9.at_ r hr'
          · rw [List.mem_singleton.mp hr']; exact R9.at_ _ (List.getElem_mem hj)
        · skip
          refine ⟨_, rfl, wy, 4, rfl, rfl, _, rfl, ite2 (fun _ => ?_) (fun _ => ?_)⟩
          · refine ⟨_, rfl, .inl ⟨rfl, _, SqL.of R8.hg⟩, _, rfl, _, rfl, _, rfl, _, rfl, _, rfl, m, rfl, rfl, by omega, st, ns, k5 + 2, ((2 ^ m : Nat) : Int), rfl, R8.S, by omega, hl, by omega, fun r9 H9 a9 b9 S9 B9 => ?_⟩
            obtain ⟨z, rfl, hz⟩ := nat_of a9 b9
            have R9 := R8.take S9 B9
            refine ⟨y, z, rfl, rfl, (by show 3 ≤ sizeLine; decide), fun t ht => ?_⟩
            have RT := R9.new (o := .tup [V.str (wordS sb), vN x, vN (y &&& z)]) ht
            refine ⟨g, _, _, rfl, rfl, RT.hg, by rw [List.length_map]; exact small1000 (by omega), ⟨_, _, _, _, _, rfl⟩, rs ++ [⟨t, sb, x, y &&& z⟩], k5 + 3, RT.put (fun r hr' => ?_) (by rw [List.map_append]; rfl), by rw [List.length_append]; show _ + 1 ≤ _; omega, by omega⟩
            rcases List.mem_append.mp hr' with hr' | hr'
            · exact RT.at_ r hr'
            · rw [List.mem_singleton.mp hr']; exact ⟨upd_same, hx, Nat.lt_of_le_of_lt Nat.and_le_left hy⟩
          · refine ⟨_, rfl, .inl ⟨rfl, _, SqL.of R8.hg⟩, _, rfl, _, rfl, _, rfl, (by show 3 ≤ sizeLine; decide), fun t ht => ?_⟩
            have RT := R8.new (o := .tup [V.str (wordS sb), vN x, vN y]) ht
            refine ⟨g, _, _, rfl, rfl, RT.hg, by rw [List.length_map]; exact small1000 (by omega), ⟨_, _, _, _, _, rfl⟩, rs ++ [⟨t, sb, x, y⟩], k5 + 2, RT.put (fun r hr' => ?_) (by rw [List.map_append]; rfl), by rw [List.length_append]; show _ + 1 ≤ _; omega, by omega⟩
            rcases List.mem_append.mp hr' with hr' | hr'
            · exact RT.at_ r hr'
            · rw [List.mem_singleton.mp hr']; exact ⟨upd_same, hx, hy⟩
      refine ⟨_, rfl, wy, 4, rfl, rfl, _, rfl, ite2 (fun _ => ?_) (fun _ => ?_)⟩
      · refine ⟨_, rfl, .inl ⟨rfl, _, SqL.of R7.hg⟩, _, rfl, _, rfl, _, rfl, _, rfl, _, rfl, m, rfl, rfl, by omega, st, ns, k5 + 2, ((2 ^ m : Nat) : Int), rfl, R7.S, by omega, hl, by omega, fun r9 H9 a9 b9 S9 B9 => ?_⟩
        obtain ⟨z, rfl, hz⟩ := nat_of a9 b9
        have R9 := R7.take S9 B9
        refine ⟨y, z, rfl, rfl, (by show 3 ≤ sizeLine; decide), fun t ht => ?_⟩
        have RT := R9.new (o := .tup [V.str (wordS sb), vN x, vN (y &&& z)]) ht
        refine ⟨g, _, _, rfl, rfl, RT.hg, by rw [List.length_map]; exact small1000 (by omega), ⟨_, _, _, _, _, rfl⟩, rs ++ [⟨t, sb, x, y &&& z⟩], k5 + 3, RT.put (fun r hr' => ?_) (by rw [List.map_append]; rfl), by rw [List.length_append]; show _ + 1 ≤ _; omega, by omega⟩
        rcases List.mem_append.mp hr' with hr' | hr'
        · exact RT.at_ r hr'
        · rw [List.mem_singleton.mp hr']; exact ⟨upd_same, hx, Nat.lt_of_le_of_lt Nat.and_le_left hy⟩
      · refine ⟨_, rfl, .inl ⟨rfl, _, SqL.of R7.hg⟩, _, rfl, _, rfl, _, rfl, (by show 3 ≤ sizeLine; decide), fun t ht => ?_⟩
        have RT := R7.new (o := .tup [V.str (wordS sb), vN x, vN y]) ht
        refine ⟨g, _, _, rfl, rfl, RT.hg, by rw [List.length_map]; exact small1000 (by omega), ⟨_, _, _, _, _, rfl⟩, rs ++ [⟨t, sb, x, y⟩], k5 + 2, RT.put (fun r hr' => ?_) (by rw [List.map_append]; rfl), by rw [List.length_append]; show _ + 1 ≤ _; omega, by omega⟩
        rcases List.mem_append.mp hr' with hr' | hr'
        · exact RT.at_ r hr'
        · rw [List.mem_singleton.mp hr']; exact ⟨upd_same, hx, hy⟩
    · rintro σ H4 ⟨⟨v3, v4, v5, v6, v7, rfl⟩, rs, k3, R, hrl, hk3⟩
      exact ⟨_, rfl, q rs g k3 H4 R (by omega) (by omega)⟩
noncomputable abbrev sParts53 : Stmt := top 41
theorem scParts53 : FnScope ["_law_state", "_law_many", "_law_most", "_law_whole", "_law_parts_here", "_law_joint", "_law_k", "_law_part", "_law_at"] ["_law_state", "_law_many", "_law_most"] (defScope sParts53) := ⟨rfl, rfl, rfl, by decide +kernel, rfl, by decide +kernel, by decide +kernel⟩
theorem ok_parts53 {f fT fTH : Addr} {fd fdT fdTH : FuncData} (F : Fun K "_law_parts" "_law_parts" sParts53 f fd) (GT : FnOk P w K mg base CX0 1 fT fdT ["_law_state", "_law_most"] (spTakeF K)) (mT : mg "_law_take" = some (.ref fT)) (kT : PySem.W.keepIn K (.ref fT) = true) (bT : Binds K fdT ["_law_state", "_law_most"] []) (GTH : FnOk P w K mg base CX0 2 fTH fdTH ["_law_state", "_law_many"] (spThin K)) (mTH : mg "_law_thin" = some (.ref fTH)) (kTH : PySem.W.keepIn K (.ref fTH) = true) (bTH : Binds K fdTH ["_law_state", "_law_many"] []) (zrange : mg "range" = none) (zlen : mg "len" = none) : FnOk P w K mg base CX0 3 f fd ["_law_state", "_law_many", "_law_most"] (spParts53 K) := by
  refine F.ok scParts53 (fun vs H Q E h => ?_) (fun cdv A outer s H vs Q E hr h => ?_)
  · obtain ⟨st, ns, k, m, mo, rfl, _⟩ := h
    rfl
  · obtain ⟨st, ns, k, m, mo, rfl, S, hk, hl, m1, m7, mo1, mo10, q⟩ := h
    have nd := scParts53.nd
    have hr1 : Room 1 _ := hr.mono (by decide)
    have hr2 : Room 2 _ := hr.mono (by decide)
    have pw0 : 0 < 2 ^ m := Nat.two_pow_pos m
    refine ⟨_, (pss_cons (ps_set (i := 3) nd rfl (Or.inl rfl) (pe_op op_subN (pe_op op_shl1 pe_int (pv 1)) pe_int))
      (pss_cons (ps_set (i := 4) nd rfl (Or.inl rfl) (pe_lst pa_nil))
      (pss_cons (ps_set (i := 5) nd rfl (Or.inl rfl) pe_int)
      (pss_cons (ps_for PassesOwn.never rfl (pi_range1 rfl zrange (pa_cons (pe_op op_addN pe_int (pe_call GT hr1 rfl mT kT bT .nil pass0 (pa_cons (pv 0) (pa_cons (pv 2) pa_nil)))) pa_nil)) (pg_name (i := 6) nd rfl (Or.inl rfl)) (pss_cons (ps_set (i := 7) nd rfl (Or.inl rfl) (pe_call GT hr1 rfl mT kT bT .nil pass0 (pa_cons (pv 0) (pa_cons (pe_op op_shl1 pe_int (pv 1)) pa_nil))))
      (pss_cons (ps_if (pt_cmpR op_eqN (pe_call GT hr1 rfl mT kT bT .nil pass0 (pa_cons (pv 0) (pa_cons pe_int pa_nil))) pe_int (nomark _)) (pss_one (ps_set (i := 7) nd rfl (Or.inl rfl) (pe_call GTH hr2 rfl mTH kTH bTH .nil pass0 (pa_cons (pv 0) (pa_cons (pv 1) pa_nil))))) pss_nil)
      (pss_cons (ps_expr (pe_bm PySem.F.plainAttrs_list PySem.F.slot_list_append PySem.F.type_list_append mt_append (pv 4) (pa_cons (pv 7) pa_nil)))
      (pss_one (ps_set (i := 5) nd rfl (Or.inl rfl) (pe_op op_orN (pv 5) (pv 7))))))))
      (pss_cons (ps_set (i := 8) nd rfl (Or.inl rfl) (pe_call GT hr1 rfl mT kT bT .nil pass0 (pa_cons (pv 0) (pa_cons (pe_callB (call_lenK (K := K) rfl) (by rfl) zlen PySem.boot_len (pa_cons (pv 4) pa_nil)) pa_nil))))
      (pss_cons (ps_asg (pe_op op_orN (pe_ix (ix_listK (K := K) rfl) (pv 4) (pv 8) (fun _ _ => rfl)) (pe_op op_subN (pv 3) (pv 5))) (pg_sub (pv 4) (pv 8) set_list))
      (pss_one (ps_ret (pv 4))))))))), ?_⟩
    refine ⟨_, rfl, m, rfl, rfl, by omega, 2 ^ m, 1, rfl, rfl, pw0, ?_⟩
    refine ⟨Nat.zero_le _, fun g hg0 => ?_⟩
    obtain ⟨_, ngs⟩ := stf_fresh S (But.refl _ _) hg0
    have S1 := S.new (o := .lst []) hg0
    have B1 : But st H (upd H g (.lst [])) := But.new hg0
    have hg1 : (upd H g (.lst [])) g = some (.lst []) := upd_same
    generalize upd H g (.lst []) = H1 at S1 B1 hg1
    refine ⟨_, rfl, _, rfl, st, ns, k, (mo : Int), rfl, S1, by omega, hl, by omega, fun r1 H2 a1 b1 S2 B2 => ?_⟩
    obtain ⟨n1, rfl, hn1⟩ := nat_of (n := mo) a1 b1
    refine ⟨1, n1, rfl, rfl, _, rfl, by omega, by omega, for_rangeN (n := 1 + n1) (fun i σ H' => ∃ (v6 v7 v8 : Option V), True ∧ ∃ (ps : List Nat) (k' : Nat), σ = [some (.ref st), some (vN m), some (vN mo), some (vN (2 ^ m - 1)), some (.ref g), some (vN (ps.foldl (· ||| ·) 0)), v6, v7, v8] ∧ H' g = some (.lst (ps.map vN)) ∧ ps.length = i ∧ (∀ q ∈ ps, q < 2 ^ m) ∧ k' ≤ k + 1 + 6 * i ∧ STF K H' st ns k' ∧ But st H H') ⟨_, _, _, trivial, [], k + 1, rfl, B2 _ _ hg1 ngs, rfl, (fun q h => absurd h List.not_mem_nil), by omega, S2, B1.trans B2⟩ (fun i σ H' hi h => ?_) (fun σ H' h => ?_)⟩
    · obtain ⟨v6, v7, v8, _, ps, k', rfl, hg', lp, hps, hk', S', b'⟩ := h
      refine ⟨_, rfl, _, rfl, m, rfl, rfl, by omega, st, ns, k', ((2 ^ m : Nat) : Int), rfl, S', by omega, hl, by omega, fun r2 H3 a2 b2 S3 B3 => ?_⟩
      obtain ⟨x, rfl, hx⟩ := nat_of a2 b2
      have hg3 := B3 _ _ hg' ngs
      refine ⟨_, rfl, st, ns, k' + 1, 3, rfl, S3, by omega, hl, by decide, fun r3 H4 a3 b3 S4 B4 => ?_⟩
      obtain ⟨w3, rfl, hw3⟩ := nat_of (n := 3) a3 b3
      have hg4 := B4 _ _ hg3 ngs
      have b4 := (b'.trans B3).trans B4
      refine ⟨w3, 0, rfl, rfl, _, rfl, ite2 (fun _ => ?_) (fun _ => ?_)⟩
      · refine ⟨_, rfl, _, rfl, st, ns, k' + 2, m, rfl, S4, by omega, hl, m1, m7, fun z k5 H5 hz hk5 S5 B5 => ?_⟩
        have hg5 := B5 _ _ hg4 ngs
        have b5 := b4.trans B5
        refine ⟨_, rfl, .inl ⟨rfl, _, SqL.of hg5⟩, _, rfl, g, _, _, rfl, rfl, hg5, small1000 (by rw [List.length_map]; omega), ?_⟩
        refine ⟨_, rfl, _, rfl, ps.foldl (· ||| ·) 0, z, rfl, rfl, ?_⟩
        refine ⟨some (vN i), some (vN z), v8, trivial, ps ++ [z], k5, by rw [List.foldl_append]; rfl, by rw [upd_same, List.map_append]; rfl, by rw [List.length_append, lp]; rfl, fun q hq => ?_, by omega, S5.put hg5 ngs, b5.own hg0⟩
        rcases List.mem_append.mp hq with hq | hq
        · exact hps q hq
        · rw [List.mem_singleton.mp hq]; exact hz
      · skip
        refine ⟨_, rfl, .inl ⟨rfl, _, SqL.of hg4⟩, _, rfl, g, _, _, rfl, rfl, hg4, small1000 (by rw [List.length_map]; omega), ?_⟩
        refine ⟨_, rfl, _, rfl, ps.foldl (· ||| ·) 0, x, rfl, rfl, ?_⟩
        refine ⟨some (vN i), some (vN x), v8, trivial, ps ++ [x], k' + 2, by rw [List.foldl_append]; rfl, by rw [upd_same, List.map_append]; rfl, by rw [List.length_append, lp]; rfl, fun q hq => ?_, by omega, S4.put hg4 ngs, b4.own hg0⟩
        rcases List.mem_append.mp hq with hq | hq
        · exact hps q hq
        · rw [List.mem_singleton.mp hq]; exact hx
    · obtain ⟨v6, v7, v8, _, ps, k', rfl, hg', lp, hps, hk', S', b'⟩ := h
      have lpm : (ps.map vN).length = ps.length := List.length_map ..
      refine ⟨_, rfl, _, rfl, g, _, rfl, .inl (SqL.of hg'), st, ns, k', (((ps.map vN).length : Nat) : Int), rfl, S', by omega, hl, by omega, fun r2 H3 a2 b2 S3 B3 => ?_⟩
      obtain ⟨at_, rfl, hat⟩ := nat_of a2 b2
      have hg3 := B3 _ _ hg' ngs
      rw [lpm] at hat
      obtain ⟨p, ep⟩ : ∃ p, ps[at_]? = some p := ⟨_, List.getElem?_eq_getElem hat⟩
      have epv : (ps.map vN)[at_]? = some (vN p) := by rw [List.getElem?_map, ep]; rfl
      have hj := or_lt hps
      obtain ⟨hall, hfull⟩ := parts_full hps ep
      refine ⟨_, rfl, _, rfl, g, _, _, _, rfl, rfl, SqL.of hg3, atI_nat epv, _, rfl, _, rfl, 2 ^ m - 1, ps.foldl (· ||| ·) 0, rfl, rfl, (by show ps.foldl (· ||| ·) 0 ≤ 2 ^ m - 1; omega), p, 2 ^ m - 1 - ps.foldl (· ||| ·) 0, rfl, rfl, _, rfl, _, rfl, g, _, _, at_, rfl, rfl, hg3, ?_, ?_⟩
      · unfold ixN
        rw [if_pos (Int.natCast_nonneg at_), lpm, if_pos (by omega), Int.toNat_natCast]
      have eset : (ps.map vN).set at_ (vN (p ||| (2 ^ m - 1 - ps.foldl (· ||| ·) 0))) = (ps.set at_ (p ||| (2 ^ m - 1 - ps.foldl (· ||| ·) 0))).map vN := by rw [List.map_set]
      refine ⟨_, rfl, ?_⟩
      refine q _ g (k' + 1) _ hall (by rw [List.length_set]; omega) (by rw [List.length_set]; omega) hfull (by omega) (S3.put hg3 ngs) ((b'.trans B3).own hg0) hg0 ngs ?_
      rw [upd_same]
      exact congrArg (fun l => some (HO.lst l)) eset
end
end Own

namespace L2
open PySem PySem.W PyProof.Rows
namespace SR
/-! ### the pieces of list.sort by their names -/
/-- an order: its questions and what follows from the answers -/
structure TO (L : Keyed → Keyed → Bool) : Prop where
  as_ : ∀ {x y}, L x y = true → L y x = false
  tr : ∀ {x y z}, L y x = false → L z y = false → L z x = false
section
variable {prog : Program} {w : World} {A : Around} {E : Value → Shared → Prop} {s : Shared} {κ : SortKind} {U : Keyed → Prop} {L : Keyed → Keyed → Bool}
/-! what galloping asks, as truths -/
end
end SR
end L2

namespace L2
open PySem PySem.W PyProof.Rows
namespace SR
/-! ### two sorted lists made one: mathematics -/
section
variable {L : Keyed → Keyed → Bool} {la lb out ro : List Keyed} {ia ib na nb k : Nat}
/-- not after -/
noncomputable abbrev Le (L : Keyed → Keyed → Bool) (x y : Keyed) : Prop := L y x = false
noncomputable abbrev Inc (L : Keyed → Keyed → Bool) (l : List Keyed) : Prop := l.Pairwise (Le L)
theorem Le.trans (O : TO L) {x y z : Keyed} (h : Le L x y) (g : Le L y z) : Le L x z := O.tr h g
theorem Inc.le (S : Inc L la) {i j : Nat} {x y : Keyed} (hi : la[i]? = some x) (hj : la[j]? = some y) (h : i < j) : Le L x y := by
  obtain ⟨h1, e1⟩ := List.getElem?_eq_some_iff.mp hi
  obtain ⟨h2, e2⟩ := List.getElem?_eq_some_iff.mp hj
  have := List.pairwise_iff_getElem.mp S i j h1 h2 h
  rw [e1, e2] at this
  exact this
theorem irr (O : TO L) (x : Keyed) : Le L x x := by
  show L x x = false
  cases c : L x x with
  | false => rfl
  | true => have := O.as_ c; rw [c] at this; exact this
theorem Inc.le' (O : TO L) (S : Inc L la) {i j : Nat} {x y : Keyed} (hi : la[i]? = some x) (hj : la[j]? = some y) (h : i ≤ j) : Le L x y := by
  rcases Nat.lt_or_ge i j with c | c
  · exact S.le hi hj c
  · have : i = j := by omega
    subst this
    rw [hi] at hj
    cases hj
    exact irr O x
theorem mem_drop {l : List Keyed} {i : Nat} {y : Keyed} (h : y ∈ l.drop i) : ∃ j, i ≤ j ∧ l[j]? = some y := by
  obtain ⟨j, hj⟩ := List.mem_iff_getElem?.mp h
  rw [List.getElem?_drop] at hj
  exact ⟨i + j, by omega, hj⟩
theorem mem_take {l : List Keyed} {n : Nat} {y : Keyed} (h : y ∈ l.take n) : ∃ j, j < n ∧ l[j]? = some y := by
  obtain ⟨j, hj⟩ := List.mem_iff_getElem?.mp h
  rw [List.getElem?_take] at hj
  split at hj
  · exact ⟨j, by assumption, hj⟩
  · cases hj
structure LI (L : Keyed → Keyed → Bool) (la lb out : List Keyed) (ia ib : Nat) : Prop where
  perm : out.Perm (la.take ia ++ lb.take ib)
  srt : Inc L out
  ha : ∀ x ∈ out, ∀ y ∈ la.drop ia, Le L x y
  hb : ∀ x ∈ out, ∀ y ∈ lb.drop ib, Le L x y
theorem LI.swap (I : LI L la lb out ia ib) : LI L lb la out ib ia := ⟨I.perm.trans List.perm_append_comm, I.srt, I.hb, I.ha⟩
theorem LI.take (Sa : Inc L la) (I : LI L la lb out ia ib) (k : Nat) (h : ∀ x ∈ (la.drop ia).take k, ∀ y ∈ lb.drop ib, Le L x y) : LI L la lb (out ++ (la.drop ia).take k) (ia + k) ib := by
  have sd : Inc L (la.drop ia) := List.Pairwise.sublist (List.drop_sublist ..) Sa
  have sc : Inc L ((la.drop ia).take k ++ (la.drop ia).drop k) := by rw [List.take_append_drop]; exact sd
  have sp := List.pairwise_append.mp sc
  refine ⟨?_, List.pairwise_append.mpr ⟨I.srt, sp.1, fun x hx y hy => I.ha x hx y (List.mem_of_mem_take hy)⟩, fun x hx y hy => ?_, fun x hx y hy => ?_⟩
  · rw [List.take_add]
    refine (I.perm.append_right _).trans ?_
    rw [List.append_assoc, List.append_assoc]
    exact List.Perm.append_left _ List.perm_append_comm
  · rw [← List.drop_drop] at hy
    rcases List.mem_append.mp hx with hx | hx
    · exact I.ha x hx y (List.mem_of_mem_drop hy)
    · exact sp.2.2 x hx y hy
  · rcases List.mem_append.mp hx with hx | hx
    · exact I.hb x hx y hy
    · exact h x hx y hy
theorem LI.fin (Sa : Inc L la) (Sb : Inc L lb) (I : LI L la lb out ia ib) (h : ∀ x ∈ la.drop ia, ∀ y ∈ lb.drop ib, Le L x y) : (out ++ la.drop ia ++ lb.drop ib).Perm (la ++ lb) ∧ Inc L (out ++ la.drop ia ++ lb.drop ib) := by
  have J := I.take Sa (la.length - ia) fun x hx y hy => h x (List.mem_of_mem_take hx) y hy
  have e1 : (la.drop ia).take (la.length - ia) = la.drop ia := List.take_of_length_le (by simp)
  rw [e1] at J
  have J2 := J.swap.take Sb (lb.length - ib) fun x hx y hy => by
    rw [List.drop_eq_nil_of_le (by omega)] at hy; cases hy
  rw [List.take_of_length_le (by simp)] at J2
  refine ⟨J2.perm.trans ?_, J2.srt⟩
  rw [List.take_of_length_le (by omega), List.take_of_length_le (by omega)]
  exact List.perm_append_comm
structure HI (L : Keyed → Keyed → Bool) (la lb ro : List Keyed) (na nb : Nat) : Prop where
  perm : ro.Perm (la.drop na ++ lb.drop nb)
  srt : Inc L ro
  ha : ∀ x ∈ la.take na, ∀ y ∈ ro, Le L x y
  hb : ∀ x ∈ lb.take nb, ∀ y ∈ ro, Le L x y
theorem HI.swap (I : HI L la lb ro na nb) : HI L lb la ro nb na := ⟨I.perm.trans List.perm_append_comm, I.srt, I.hb, I.ha⟩
theorem HI.drop (Sa : Inc L la) (I : HI L la lb ro na nb) (k : Nat) (hk : k ≤ na) (h : ∀ x ∈ lb.take nb, ∀ y ∈ (la.take na).drop k, Le L x y) : HI L la lb ((la.take na).drop k ++ ro) k nb := by
  have sd : Inc L (la.take na) := List.Pairwise.sublist (List.take_sublist ..) Sa
  have sc : Inc L ((la.take na).take k ++ (la.take na).drop k) := by rw [List.take_append_drop]; exact sd
  have sp := List.pairwise_append.mp sc
  have ek : (la.take na).take k = la.take k := by rw [List.take_take, Nat.min_eq_left hk]
  refine ⟨?_, List.pairwise_append.mpr ⟨sp.2.1, I.srt, fun x hx y hy => I.ha x (List.mem_of_mem_drop hx) y hy⟩, fun x hx y hy => ?_, fun x hx y hy => ?_⟩
  · have e : la.drop k = (la.take na).drop k ++ la.drop na := by
      rcases Nat.lt_or_ge la.length na with c | c
      · rw [List.take_of_length_le (by omega), List.drop_eq_nil_of_le (i := na) (by omega), List.append_nil]
      · conv => lhs; rw [← List.take_append_drop na la]
        rw [List.drop_append_of_le_length (by rw [List.length_take]; omega)]
    rw [e, List.append_assoc]
    exact I.perm.append_left _
  · rw [← ek] at hx
    rcases List.mem_append.mp hy with hy | hy
    · exact sp.2.2 x hx y hy
    · exact I.ha x (List.mem_of_mem_take hx) y hy
  · rcases List.mem_append.mp hy with hy | hy
    · exact h x hx y hy
    · exact I.hb x hx y hy
theorem HI.fin (Sa : Inc L la) (Sb : Inc L lb) (I : HI L la lb ro na nb) (h : ∀ x ∈ la.take na, ∀ y ∈ lb.take nb, Le L x y) : (la.take na ++ lb.take nb ++ ro).Perm (la ++ lb) ∧ Inc L (la.take na ++ lb.take nb ++ ro) := by
  have J := I.swap.drop Sb 0 (Nat.zero_le _) fun x hx y hy => h x hx y (List.mem_of_mem_drop hy)
  have J2 := J.swap.drop Sa 0 (Nat.zero_le _) fun x hx y hy => by rw [List.take_zero] at hx; cases hx
  rw [List.drop_zero, List.drop_zero] at J2
  rw [List.append_assoc]
  refine ⟨J2.perm.trans ?_, J2.srt⟩
  rw [List.drop_zero, List.drop_zero]
end
end SR
end L2

namespace L2
open PySem PySem.W PyProof.Rows
namespace SR
section
variable {L : Keyed → Keyed → Bool} {a b out : Array Keyed} {ia ib k : Nat} {x y : Keyed}
/-- what merging leaves alone -/
structure Kp (st st' : SortSt) : Prop where
  kind : kindOf st' = kindOf st
  arr : arrOf st' = arrOf st
  pend : pendingOf st' = pendingOf st
  failed : failedOf st' = failedOf st
theorem Kp.refl (st : SortSt) : Kp st st := ⟨rfl, rfl, rfl, rfl⟩
theorem ex_toList {a : Array Keyed} {i j : Nat} : (a.extract i j).toList = (a.toList.drop i).take (j - i) := by
  simp
theorem ex_all {a : Array Keyed} {i : Nat} : (a.extract i a.size).toList = a.toList.drop i := by
  rw [ex_toList]; exact List.take_of_length_le (by simp)
theorem get_l {a : Array Keyed} {i : Nat} : a.toList[i]? = a[i]? := by simp
theorem up (O : TO L) (Sa : Inc L a.toList) (h : a[ia]? = some x) (g : Le L y x) : ∀ z ∈ a.toList.drop ia, Le L y z := fun z hz => by
  obtain ⟨j, hj, ej⟩ := mem_drop hz
  rw [← get_l] at h
  exact g.trans O (Sa.le' O h ej hj)
noncomputable abbrev Fin (L : Keyed → Keyed → Bool) (a b r : Array Keyed) : Prop := r.toList.Perm (a.toList ++ b.toList) ∧ Inc L r.toList
noncomputable abbrev Lo (L : Keyed → Keyed → Bool) (a b out : Array Keyed) (ia ib : Nat) : Prop := LI L a.toList b.toList out.toList ia ib
theorem Lo.done (Sa : Inc L a.toList) (Sb : Inc L b.toList) (I : Lo L a b out ia ib) (h : ia = a.size ∨ ib = b.size) : Fin L a b (out ++ a.extract ia a.size ++ b.extract ib b.size) := by
  have := LI.fin Sa Sb I fun x hx y hy => by
    rcases h with h | h
    · rw [h, List.drop_eq_nil_of_le (by simp)] at hx; cases hx
    · rw [h, List.drop_eq_nil_of_le (by simp)] at hy; cases hy
  unfold Fin
  rw [Array.toList_append, Array.toList_append, ex_all, ex_all]
  exact this
theorem Lo.last (Sa : Inc L a.toList) (Sb : Inc L b.toList) (h1 : ∀ y ∈ b.toList, ∀ x, a[a.size - 1]? = some x → Le L y x) (I : Lo L a b out ia ib) (h : ia + 1 = a.size) : Fin L a b (out ++ b.extract ib b.size ++ a.extract ia a.size) := by
  have := LI.fin Sb Sa I.swap fun y hy x hx => by
    obtain ⟨j, hj, ej⟩ := mem_drop hx
    have hl := (List.getElem?_eq_some_iff.mp ej).1
    rw [Array.length_toList] at hl
    rw [get_l] at ej
    exact h1 y (List.mem_of_mem_drop hy) x (by rw [← ej]; congr 1; omega)
  unfold Fin
  rw [Array.toList_append, Array.toList_append, ex_all, ex_all]
  exact ⟨this.1.trans List.perm_append_comm, this.2⟩
end
section
variable {prog : Program} {w : World} {A : Around} {E : Value → Shared → Prop} {s : Shared} {κ : SortKind} {U : Keyed → Prop} {L : Keyed → Keyed → Bool}
end
end SR
end L2

namespace L2
open PySem PySem.W PyProof.Rows
namespace SR
section
variable {prog : Program} {w : World} {A : Around} {E : Value → Shared → Prop} {s : Shared} {κ : SortKind} {U : Keyed → Prop} {L : Keyed → Keyed → Bool}
end
end SR
end L2

namespace L2
open PySem PySem.W PyProof.Rows
namespace SR
section
variable {L : Keyed → Keyed → Bool} {a b out : Array Keyed} {na nb k : Nat} {x y : Keyed}
theorem dn (O : TO L) (Sa : Inc L a.toList) (h : a[na - 1]? = some x) (g : Le L x y) : ∀ z ∈ a.toList.take na, Le L z y := fun z hz => by
  obtain ⟨j, hj, ej⟩ := mem_take hz
  rw [← get_l] at h
  exact (Sa.le' O ej h (by omega)).trans O g
noncomputable abbrev Hi (L : Keyed → Keyed → Bool) (a b out : Array Keyed) (na nb : Nat) : Prop := HI L a.toList b.toList out.toList.reverse na nb
theorem ex0 {a : Array Keyed} {n : Nat} : (a.extract 0 n).toList = a.toList.take n := by rw [ex_toList]; rfl
theorem Hi.done (Sa : Inc L a.toList) (Sb : Inc L b.toList) (I : Hi L a b out na nb) (h : na = 0 ∨ nb = 0) : Fin L a b (a.extract 0 na ++ b.extract 0 nb ++ out.reverse) := by
  have := HI.fin Sa Sb I fun x hx y hy => by
    rcases h with h | h
    · rw [h] at hx; cases hx
    · rw [h] at hy; cases hy
  unfold Fin
  rw [Array.toList_append, Array.toList_append, ex0, ex0, Array.toList_reverse]
  exact this
theorem Hi.first (Sa : Inc L a.toList) (Sb : Inc L b.toList) (h0 : ∀ x ∈ a.toList, ∀ y, b[0]? = some y → Le L y x) (I : Hi L a b out na nb) (h : nb = 1) : Fin L a b (b.extract 0 nb ++ a.extract 0 na ++ out.reverse) := by
  have := HI.fin Sb Sa I.swap fun y hy x hx => by
    obtain ⟨j, hj, ej⟩ := mem_take hy
    rw [get_l] at ej
    exact h0 x (List.mem_of_mem_take hx) y (by rw [← ej]; congr 1; omega)
  unfold Fin
  rw [Array.toList_append, Array.toList_append, ex0, ex0, Array.toList_reverse]
  exact ⟨this.1.trans List.perm_append_comm, this.2⟩
end
section
variable {prog : Program} {w : World} {A : Around} {E : Value → Shared → Prop} {s : Shared} {κ : SortKind} {U : Keyed → Prop} {L : Keyed → Keyed → Bool}
end
end SR
end L2

namespace L2
open PySem PySem.W PyProof.Rows
namespace SR
/-! ### two neighbouring runs made one -/
section
variable {L : Keyed → Keyed → Bool}
end
section
variable {prog : Program} {w : World} {A : Around} {E : Value → Shared → Prop} {s : Shared} {κ : SortKind} {U : Keyed → Prop} {L : Keyed → Keyed → Bool}
end
end SR
end L2

namespace L2
open PySem PySem.W PyProof.Rows
namespace SR
/-! ### a run found and a run made longer, from any place on -/
section
variable {L : Keyed → Keyed → Bool} {xs : Array Keyed} {lo n q : Nat}
noncomputable def at_ (xs : Array Keyed) (k : Nat) : Keyed := (xs[k]?).getD (Value.none, Value.none)
theorem at_some {k : Nat} (h : k < xs.size) : xs[k]? = some (at_ xs k) := by
  unfold at_
  rw [Array.getElem?_eq_getElem h]
  rfl
theorem at_mir {i j : Nat} (hj : j ≤ xs.size) (k : Nat) : at_ (mirror xs i j ((j - i) / 2)) k = if i ≤ k ∧ k < j then at_ xs (i + j - 1 - k) else at_ xs k := by
  unfold at_
  rw [getElem?_mirror_all hj]
  split <;> rfl
noncomputable def Up (L : Keyed → Keyed → Bool) (xs : Array Keyed) (lo n : Nat) : Prop := ∀ i j, i < j → j < n → Le L (at_ xs (lo + i)) (at_ xs (lo + j))
noncomputable def Dn (L : Keyed → Keyed → Bool) (xs : Array Keyed) (lo n : Nat) : Prop := ∀ i j, i < j → j < n → Le L (at_ xs (lo + j)) (at_ xs (lo + i))
theorem Up.more (O : TO L) (h : Up L xs lo n) (h1 : 1 ≤ n) (g : Le L (at_ xs (lo + n - 1)) (at_ xs (lo + n))) : Up L xs lo (n + 1) := fun i j hij hj => by
  by_cases c : j < n
  · exact h i j hij c
  · have e : j = n := by omega
    subst e
    by_cases d : i = j - 1
    · rw [d, show lo + (j - 1) = lo + j - 1 by omega]; exact g
    · have := h i (j - 1) (by omega) (by omega)
      rw [show lo + (j - 1) = lo + j - 1 by omega] at this
      exact this.trans O g
theorem Dn.more (O : TO L) (h : Dn L xs lo n) (h1 : 1 ≤ n) (g : Le L (at_ xs (lo + n)) (at_ xs (lo + n - 1))) : Dn L xs lo (n + 1) := fun i j hij hj => by
  by_cases c : j < n
  · exact h i j hij c
  · have e : j = n := by omega
    subst e
    by_cases d : i = j - 1
    · rw [d, show lo + (j - 1) = lo + j - 1 by omega]; exact g
    · have := h i (j - 1) (by omega) (by omega)
      rw [show lo + (j - 1) = lo + j - 1 by omega] at this
      exact g.trans O this
structure DI (L : Keyed → Keyed → Bool) (xs : Array Keyed) (lo n q : Nat) : Prop where
  q1 : q + 1 ≤ n
  dn : Dn L xs lo n
  eq : ∀ i j, n - (q + 1) ≤ i → i < n → n - (q + 1) ≤ j → j < n → Le L (at_ xs (lo + i)) (at_ xs (lo + j))
theorem DI.one (O : TO L) (h1 : 1 ≤ n) (h : Dn L xs lo n) : DI L xs lo n 0 := ⟨by omega, h, fun i j a b c d => by
  have : i = j := by omega
  rw [this]; exact irr O _⟩
theorem Dn.turn (D : Dn L xs lo n) (hs : lo + n ≤ xs.size) : Up L (mirror xs lo (lo + n) ((lo + n - lo) / 2)) lo n := fun i j hij hj => by
  rw [at_mir hs, at_mir hs, if_pos (by omega), if_pos (by omega)]
  have := D (n - 1 - j) (n - 1 - i) (by omega) (by omega)
  rw [show lo + (n - 1 - j) = lo + (lo + n) - 1 - (lo + j) by omega, show lo + (n - 1 - i) = lo + (lo + n) - 1 - (lo + i) by omega] at this
  exact this
theorem Up.same (O : TO L) (h : Up L xs lo n) (h1 : 1 ≤ n) (g : Le L (at_ xs (lo + n - 1)) (at_ xs lo)) : ∀ i j, i < n → j < n → Le L (at_ xs (lo + i)) (at_ xs (lo + j)) := fun i j hi hj => by
  have top : Le L (at_ xs (lo + i)) (at_ xs (lo + n - 1)) := by
    by_cases c : i = n - 1
    · rw [c, show lo + (n - 1) = lo + n - 1 by omega]; exact irr O _
    · have := h i (n - 1) (by omega) (by omega)
      rwa [show lo + (n - 1) = lo + n - 1 by omega] at this
  have low : Le L (at_ xs lo) (at_ xs (lo + j)) := by
    by_cases c : j = 0
    · rw [c]; exact irr O _
    · exact h 0 j (by omega) hj
  exact (top.trans O g).trans O low
end
section
variable {prog : Program} {w : World} {A : Around} {E : Value → Shared → Prop} {s : Shared} {κ : SortKind} {U : Keyed → Prop} {L : Keyed → Keyed → Bool} {lo : Nat} {st0 st : SortSt}
structure Sg (κ : SortKind) (lo : Nat) (st0 st : SortSt) : Prop where
  kind : kindOf st = κ
  failed : failedOf st = none
  pend : pendingOf st = pendingOf st0
  perm : (arrOf st).Perm (arrOf st0)
  pre : ∀ k, k < lo → (arrOf st)[k]? = (arrOf st0)[k]?
theorem Sg.size (G : Sg κ lo st0 st) : (arrOf st).size = (arrOf st0).size := G.perm.size_eq
theorem Sg.u (G : Sg κ lo st0 st) (u0 : ∀ x ∈ (arrOf st0).toList, U x) {k : Nat} (h : k < (arrOf st).size) : U (at_ (arrOf st) k) := by
  have := at_some h
  exact u0 _ ((Array.perm_iff_toList_perm.mp G.perm).mem_iff.mp (by rw [← Array.getElem?_toList] at this; exact List.mem_of_getElem? this))
end
end SR
end L2

namespace L2
open PySem PySem.W PyProof.Rows
namespace SR
/-! ### the runs waiting, and the whole of the sort -/
section
variable {L : Keyed → Keyed → Bool}
noncomputable def Runs (L : Keyed → Keyed → Bool) : Nat → List (Nat × Nat × Nat) → List (List Keyed) → Prop
  | _, [], [] => True
  | o, p :: ps, r :: rs => p.1 = o ∧ p.2.1 = r.length ∧ 1 ≤ r.length ∧ Inc L r ∧ Runs L (o + r.length) ps rs
  | _, _, _ => False
theorem Runs.len : ∀ {o : Nat} {ps : List (Nat × Nat × Nat)} {rs : List (List Keyed)}, Runs L o ps rs → ps.length = rs.length ∧ rs.length ≤ rs.flatten.length
  | _, [], [], _ => ⟨rfl, Nat.le_refl _⟩
  | _, p :: ps, r :: rs, h => by
    obtain ⟨_, _, h3, _, h5⟩ := h
    obtain ⟨e1, e2⟩ := h5.len
    rw [List.length_cons, List.length_cons, e1, List.flatten_cons, List.length_append]
    exact ⟨rfl, by omega⟩
  | _, [], _ :: _, h => h.elim
  | _, _ :: _, [], h => h.elim
theorem Runs.push : ∀ {o : Nat} {ps : List (Nat × Nat × Nat)} {rs : List (List Keyed)} {r : List Keyed} {z : Nat}, Runs L o ps rs → 1 ≤ r.length → Inc L r → Runs L o (ps ++ [(o + rs.flatten.length, r.length, z)]) (rs ++ [r])
  | o, [], [], r, z, _, h1, h2 => ⟨by simp, rfl, h1, h2, trivial⟩
  | o, p :: ps, q :: rs, r, z, h, h1, h2 => by
    obtain ⟨a1, a2, a3, a4, a5⟩ := h
    have := a5.push (z := z) h1 h2
    refine ⟨a1, a2, a3, a4, ?_⟩
    show Runs L (o + q.length) (ps ++ _) (rs ++ [r])
    rw [List.flatten_cons, List.length_append, ← Nat.add_assoc]
    exact this
  | _, [], _ :: _, _, _, h, _, _ => h.elim
  | _, _ :: _, [], _, _, h, _, _ => h.elim
/-- the last number of each is nobody's business -/
theorem Runs.alike : ∀ {o : Nat} {ps ps' : List (Nat × Nat × Nat)} {rs : List (List Keyed)}, Runs L o ps rs → ps'.map (fun p => (p.1, p.2.1)) = ps.map (fun p => (p.1, p.2.1)) → Runs L o ps' rs
  | _, [], [], [], _, _ => trivial
  | o, p :: ps, p' :: ps', r :: rs, h, e => by
    obtain ⟨a1, a2, a3, a4, a5⟩ := h
    rw [List.map_cons, List.map_cons] at e
    injection e with e1 e2
    injection e1 with e3 e4
    exact ⟨e3.trans a1, e4.trans a2, a3, a4, a5.alike e2⟩
  | _, p :: ps, [], _, _, e => by simp at e
  | _, [], p' :: ps', _, _, e => by simp at e
  | _, [], _, _ :: _, h, _ => h.elim
  | _, _ :: _, _, [], h, _ => h.elim
theorem Runs.cut : ∀ {i o : Nat} {ps : List (Nat × Nat × Nat)} {rs : List (List Keyed)}, Runs L o ps rs → i + 1 < ps.length → ∃ ps1 u v ps2 rs1 ra rb rs2, ps = ps1 ++ u :: v :: ps2 ∧ i = ps1.length ∧ rs = rs1 ++ ra :: rb :: rs2 ∧ u.1 = o + rs1.flatten.length ∧ u.2.1 = ra.length ∧ v.1 = o + rs1.flatten.length + ra.length ∧ v.2.1 = rb.length ∧ 1 ≤ ra.length ∧ 1 ≤ rb.length ∧ Inc L ra ∧ Inc L rb ∧
    ∀ m : List Keyed, m.length = ra.length + rb.length → Inc L m → Runs L o (ps1 ++ (u.1, u.2.1 + v.2.1, u.2.2) :: ps2) (rs1 ++ m :: rs2)
  | 0, o, u :: v :: ps, ra :: rb :: rs, h, _ => by
    obtain ⟨a1, a2, a3, a4, b1, b2, b3, b4, b5⟩ := h
    refine ⟨[], u, v, ps, [], ra, rb, rs, rfl, rfl, rfl, by simpa using a1, a2, by simpa using b1, b2, a3, b3, a4, b4, fun m e hm => ⟨a1, by rw [e, a2, b2], by omega, hm, ?_⟩⟩
    rw [e, ← Nat.add_assoc]
    exact b5
  | i + 1, o, p :: ps, r :: rs, h, hi => by
    obtain ⟨a1, a2, a3, a4, a5⟩ := h
    obtain ⟨ps1, u, v, ps2, rs1, ra, rb, rs2, e1, e2, e3, c1, c2, c3, c4, c5, c6, c7, c8, c9⟩ := a5.cut (i := i) (by rw [List.length_cons] at hi; omega)
    refine ⟨p :: ps1, u, v, ps2, r :: rs1, ra, rb, rs2, by rw [e1]; rfl, by rw [List.length_cons, e2], by rw [e3]; rfl, ?_, c2, ?_, c4, c5, c6, c7, c8, fun m e hm => ⟨a1, a2, a3, a4, c9 m e hm⟩⟩
    · rw [c1, List.flatten_cons, List.length_append, Nat.add_assoc]
    · rw [c3, List.flatten_cons, List.length_append, Nat.add_assoc o]
  | _, _, [], _, _, hi => by simp at hi
  | 0, _, [_], _, _, hi => by simp at hi
  | 0, _, _ :: _ :: _, [], h, _ => h.elim
  | 0, _, _ :: _ :: _, [_], h, _ => h.2.2.2.2.elim
  | _ + 1, _, _ :: _, [], h, _ => h.elim
end
section
variable {prog : Program} {w : World} {A : Around} {E : Value → Shared → Prop} {s : Shared} {κ : SortKind} {U : Keyed → Prop} {L : Keyed → Keyed → Bool} {a₀ : Array Keyed} {R : List Keyed} {st : SortSt}
structure St (L : Keyed → Keyed → Bool) (κ : SortKind) (a₀ : Array Keyed) (R : List Keyed) (st : SortSt) : Prop where
  kind : kindOf st = κ
  failed : failedOf st = none
  perm : (arrOf st).Perm a₀
  ex : ∃ rs, (arrOf st).toList = rs.flatten ++ R ∧ Runs L 0 (pendingOf st).toList rs
theorem St.u (S : St L κ a₀ R st) (u0 : ∀ x ∈ a₀.toList, U x) : ∀ x ∈ (arrOf st).toList, U x := fun x hx => u0 x ((Array.perm_iff_toList_perm.mp S.perm).mem_iff.mp hx)
theorem St.push (S : St L κ a₀ R st) {lo n : Nat} (e : lo + R.length = a₀.size) (h1 : 1 ≤ n) (h2 : n ≤ R.length) (hi : Inc L (R.take n)) : St L κ a₀ (R.drop n) (setPending st ((pendingOf st).push (lo, n, 0))) := by
  obtain ⟨rs, e1, r⟩ := S.ex
  have hl : lo = rs.flatten.length := by
    have := S.perm.size_eq
    rw [← Array.length_toList, e1, List.length_append] at this
    omega
  refine ⟨S.kind, S.failed, S.perm, rs ++ [R.take n], ?_, ?_⟩
  · show (arrOf st).toList = _
    rw [e1]
    simp
  · show Runs L 0 ((pendingOf st).push (lo, n, 0)).toList _
    have hn : (R.take n).length = n := by rw [List.length_take]; omega
    have := r.push (r := R.take n) (z := 0) (by omega) hi
    rw [Nat.zero_add, ← hl, hn] at this
    rw [Array.toList_push]
    exact this
theorem St.mod (S : St L κ a₀ R st) (k pw : Nat) : St L κ a₀ R (setPending st ((pendingOf st).modify k fun x => (x.1, x.2.1, pw))) := by
  obtain ⟨rs, e1, r⟩ := S.ex
  refine ⟨S.kind, S.failed, S.perm, rs, e1, r.alike ?_⟩
  show List.map _ ((pendingOf st).modify k fun x => (x.1, x.2.1, pw)).toList = _
  apply List.ext_getElem?
  intro j
  rw [List.getElem?_map, List.getElem?_map, Array.getElem?_toList, Array.getElem?_toList, Array.getElem?_modify]
  split
  · cases (pendingOf st)[j]? <;> rfl
  · rfl
end
end SR
end L2

namespace L2
open PySem PySem.Spec PySem.W PyProof.Rows
/-! ### sorted(a list of whole numbers), however long below a thousand -/
namespace ST
section
variable {prog : Program} {w : World} {A : Around} {E : Value → Shared → Prop} {s : Shared} {a : Addr}
end
end ST
section
variable {X : Cx} {K : PySem.W.Frag}
end
end L2
namespace L2
open PySem PySem.Spec PyProof.Rows
/-! ### the length of a set of whole numbers -/
section
variable {X : Cx} {K : PySem.W.Frag}
end
end L2

namespace L2
open PySem PySem.W PyProof.Rows
namespace ST
/-! ### what the library's tree of questions comes to, where each question has an answer -/
/-! the order asked for -/
section
variable {lt : Nat → Nat → Bool}
/-! what is asked for -/
section
variable {N : Nat} (h0 : 0 < N)
include h0
end
end
end ST
end L2

namespace L2
open PySem PySem.W PyProof.Rows
namespace ST
/-! ### rows in their order -/
section
variable {prog : Program} {w : World} {A : Around} {E : Value → Shared → Prop} {s : Shared}
end
end ST
end L2

namespace L2
open PySem PySem.Spec PySem.W PyProof.Rows
namespace ST
/-! ### list.sort of rows -/
section
variable {prog : Program} {w : World} {A : Around} {E : Value → Shared → Prop} {s : Shared} {L a : Addr} {mm : Str → Option Value} {m : Nat} {rows : List (Addr × List Int)}
end
end ST
end L2

namespace L2
open PySem PySem.Spec PySem.W PyProof.Rows
/-! ### sorted(whole numbers, key=lambda ..) whose keys are tuples of whole numbers -/
namespace ST
section
variable {prog : Program} {w : World} {A : Around} {E : Value → Shared → Prop} {s : Shared} {m : Nat} {a : Addr} {kS : Value} {e1 : Nat}
end
end ST
section
variable {X : Cx} {pins : List (Addr × Obj)} {σ : St} {H : Hp} {s : Shared} {A : Around} {E : Value → Shared → Prop}
end
end L2

namespace L2
open PySem PySem.Spec PyProof.Rows PySem.W
/-! ### all sets within a set, size by size -/
end L2

namespace L2
open PySem PySem.Spec PyProof.Rows
section
variable {X : Cx} {K : PySem.W.Frag}
end
/-! ### what a set settles, told by the sets that keep the rules; keys -/
/-! keys -/
end L2

namespace L2
open PySem PySem.Spec PyProof.Rows
/-! ### what a set settles, as a number; gains part by part -/
end L2

namespace L2
open PySem PySem.Spec PyProof.Rows
end L2

namespace L2
open PySem PySem.Spec PyProof.Rows
section
variable {X : Cx} {K : PySem.W.Frag}
end
/-! ### keys told by the sets that keep the rules -/
end L2

namespace L2
open PySem PySem.Spec PyProof.Rows
/-! ### every set is unfolded; gains told by the sets that keep the rules -/
end L2

namespace L2
open PySem PySem.Spec PyProof.Rows
/-! ### what is told twice, and the tree of cuts -/
/-! the run by levels -/
/-! trees -/
end L2

namespace L2
open PySem PySem.Spec PyProof.Rows
/-! ### the cover of a cover is the cover -/
/-! keys hang on what the rules say alone -/
end L2

namespace L2
open PySem PySem.Spec PyProof.Rows
/-! ### parts by the cover: lefts as they are first met, what stands with each -/
/-! ### a key more, and those within others left out -/
/-! ### what the defs promise -/
end L2

namespace L2
open PySem PySem.Spec PyProof.Rows
end L2

namespace L2
open PySem PySem.Spec PyProof.Rows
/-! ### pairs and trees in the heap -/
/-! ### promises -/
end L2

namespace L2
open PySem PySem.Spec PyProof.Rows
/-! ### a lambda's scope, reckoned -/
noncomputable def lscB (o : Bool) (x0 : Str) (N : List Str) (osc sc : Scope) : Bool :=
  decide (sc.kind = .function) && decide (sc.isCoroutine = false) && decide (sc.isGenerator = false) && (!o || decide (sc.names.lookup x0 = some .cell)) && sc.names.all (fun y => decide (y.2 ≠ .cell) || (o && decide (y.1 = x0))) && sc.names.all (fun y => decide (y.2 ≠ .local)) &&
    sc.names.all (fun y => decide (y.2 ≠ .free) || (decide (osc.names.lookup y.1 = some .cell) || decide (osc.names.lookup y.1 = some .free))) && decide ((owN o x0 N).Nodup)
theorem lsc {X : Cx} {o : Bool} {x0 : Str} {sc : Scope} (N : List Str) (osc : Scope) (hN : X.N = N) (ho : X.env.scope = osc) (h : lscB o x0 N osc sc = true) (laid : ∀ a cl, cellsFrom a sc.names cl = owC o x0 a cl) (push : ∀ h : Heap, pushCells h sc.names = cond o (h.push { cls := .type "cell", data := .cell none }) h) : LScope X o x0 sc := by
  unfold lscB at h
  simp only [Bool.and_eq_true, List.all_eq_true, decide_eq_true_eq, Bool.or_eq_true] at h
  obtain ⟨⟨⟨⟨⟨⟨⟨h1, h2⟩, h3⟩, h4⟩, h5⟩, h6⟩, h7⟩, h8⟩ := h
  refine ⟨h1, h2, h3, fun z => h4.resolve_left (by rw [z]; decide), fun y hy e => (h5 y hy).resolve_left fun z => z e, h6, fun y hy e => ?_, laid, push, by rw [hN]; exact h8⟩
  show X.env.scope.names.lookup y.1 = _ ∨ X.env.scope.names.lookup y.1 = _
  rw [ho]
  exact (h7 y hy).resolve_left fun z => z e
/-! ### k60: the sets within a part in their order -/
theorem tab_but {P : Addr} {qual : Str} {H H' : Hp} (T : TabAt P qual H) (b : But P H H') {a : Addr} {o : HO} (h : H a = some o) (ho : ∀ ps, o ≠ .tbl ps) : H' a = some o := let ⟨_, h1, _⟩ := T; b _ _ h (ne_of h h1 (ho _))
theorem RulesAt.butT {P : Addr} {qual : Str} {H H' : Hp} {m : Nat} {rs : List Rl} (h : RulesAt H m rs) (T : TabAt P qual H) (b : But P H H') : RulesAt H' m rs := fun r hr => ⟨tab_but T b (h r hr).1 fun _ z => (nomatch z), (h r hr).2⟩
end L2

namespace Own
open PySem L2
section
variable {P : Program} {w : World} {K : PySem.W.Frag} {mg : Str → Option Value} {base : Heap}
seal PySem.wpAny
noncomputable abbrev lamF : Scope := { kind := .function, names := [("_law_handed", .free), ("_law_many", .free), ("filled", .globalImplicit)], isGenerator := false, isCoroutine := false }
noncomputable abbrev lamS : Scope := { kind := .function, names := [("_law_handed", .free), ("_law_many", .free), ("is_safe", .globalImplicit)], isGenerator := false, isCoroutine := false }
noncomputable abbrev sParted : Stmt := top 43
theorem scParted : FnScope ["_law_many", "_law_rules_here", "_law_parts_here", "_law_due", "_law_handed", "_law_first", "_law_second"] ["_law_many", "_law_rules_here", "_law_parts_here", "_law_due"] (defScope sParted) := ⟨rfl, rfl, rfl, by decide +kernel, rfl, by decide +kernel, by decide +kernel⟩
theorem bad_le {m b : Nat} {ps : List Nat} (h : BadP m ps b) : (b = 1 ∧ (if b = 1 then CCN else CTM) = CCN) ∨ (b = 2 ∧ (if b = 1 then CCN else CTM) = CTM) := by
  rcases h with ⟨rfl, _⟩ | ⟨rfl, _⟩
  · exact .inr ⟨rfl, if_neg (by decide)⟩
  · exact .inl ⟨rfl, if_pos rfl⟩
theorem bad_ex {m b : Nat} {ps : List Nat} {H : Hp} (h : BadP m ps b) (H' : Hp) (s : Same H H') : Same H H' ∧ ((b = 1 ∧ Value.ref (if b = 1 then CCN else CTM) = .ref CCN) ∨ (b = 2 ∧ Value.ref (if b = 1 then CCN else CTM) = .ref CTM)) := by
  rcases bad_le (CCN := CCN) (CTM := CTM) h with ⟨e, z⟩ | ⟨e, z⟩
  · exact ⟨s, .inl ⟨e, by rw [z]⟩⟩
  · exact ⟨s, .inr ⟨e, by rw [z]⟩⟩
theorem ok_parted {f fHE fFL fSF cc PT CCN CTM : Addr} {fd fdHE fdFL fdSF : FuncData} (F : Fun K "_law_parted" "_law_parted" sParted f fd) (hcode : fd.code = .ref cc) (CH : PySem.W.CodeHd base cc PT) (hbm : BMod mg base) (GHE : FnAt P w K mg base CX0 21 fHE fdHE ["_law_ask"] (spHeard P w K mg base CCN CTM)) (mHE : mg "_law_heard" = some (.ref fHE)) (kHE : PySem.W.keepIn K (.ref fHE) = true) (bHE : Binds K fdHE ["_law_ask"] []) (GFL : FnOk P w K mg base CX0 6 fFL fdFL ["many", "rules", "parts"] (spFilled K)) (mFL : mg "filled" = some (.ref fFL)) (kFL : PySem.W.keepIn K (.ref fFL) = true) (bFL : Binds K fdFL ["many", "rules", "parts"] []) (GFLX : FnOk P w K mg base (CX1 P w) 6 fFL fdFL ["many", "rules", "parts"] (spFilledX K CCN CTM)) (GSF : FnOk P w K mg base CX0 7 fSF fdSF ["many", "rules", "parts"] (spSafe K)) (mSF : mg "is_safe" = some (.ref fSF)) (kSF : PySem.W.keepIn K (.ref fSF) = true) (bSF : Binds K fdSF ["many", "rules", "parts"] []) (GSFX : FnOk P w K mg base (CX1 P w) 7 fSF fdSF ["many", "rules", "parts"] (spSafeX K CCN CTM)) (zlist : mg "list" = none) : FnOk P w K mg base CX0 22 f fd ["_law_many", "_law_rules_here", "_law_parts_here", "_law_due"] (spParted K PT) := by
  refine F.okT hcode scParted (fun vs H Q E h => ?_) (fun A outer s H vs Q E hr h => ?_)
  · obtain ⟨m, b, rl, pl, rs, ps, rfl, _⟩ := h
    rfl
  · obtain ⟨m, b, rl, pl, rs, ps, rfl, m1, m7, b2, hrl, hRs, lr, hpl, lp, hps, hP, T0, q⟩ := h
    have nd := scParted.nd
    have hr21 : Room 21 _ := hr
    refine ⟨_, (pss_cons (ps_set (i := 4) nd rfl (Or.inr rfl) (pe_tup (pa_cons (pe_callTy (call_listK (K := K) rfl) (by rfl) zlist PyProof.Rows.boot_list (pa_cons (pv 1) pa_nil)) (pa_cons (pe_callTy (call_listK (K := K) rfl) (by rfl) zlist PyProof.Rows.boot_list (pa_cons (pv 2) pa_nil)) pa_nil))))
      (pss_cons (ps_set (i := 5) nd rfl (Or.inl rfl) (pe_callS GHE hr21 (by rfl) mHE kHE bHE (pa_cons (pe_lam (P := PT) (qual := qP) rfl CH hbm rfl (lsc (o := false) (x0 := "") (sc := lamF) ["_law_many", "_law_rules_here", "_law_parts_here", "_law_due", "_law_handed", "_law_first", "_law_second"] (defScope sParted) rfl rfl (by decide +kernel) (fun _ _ => rfl) (fun _ => rfl)).frees) pa_nil)))
      (pss_cons (ps_set (i := 6) nd rfl (Or.inl rfl) (pe_callS GHE hr21 (by rfl) mHE kHE bHE (pa_cons (pe_lam (P := PT) (qual := qP) rfl CH hbm rfl (lsc (o := false) (x0 := "") (sc := lamS) ["_law_many", "_law_rules_here", "_law_parts_here", "_law_due", "_law_handed", "_law_first", "_law_second"] (defScope sParted) rfl rfl (by decide +kernel) (fun _ _ => rfl) (fun _ => rfl)).frees) pa_nil)))
      (pss_one (ps_ret (pe_and (pe_cmpR op_eq (pv 5) (pv 3) (nomark _)) (pe_and (pe_cmpR op_eq (pv 6) (pv 3) (nomark _)) (pe_one (pe_cmpR (op_eqD (K := K) rfl hr.units) (pv 4) (pe_tup (pa_cons (pv 1) (pa_cons (pv 2) pa_nil))) (nomark _)))))))))), ?_⟩
    refine ⟨_, rfl, rl, _, rfl, .inl (SqL.of hrl), fun la hla0 => ?_⟩
    have s1 := Same.new (o := .lst (rs.map fun (r : Rl) => V.ref r.r)) hla0
    refine ⟨_, rfl, pl, _, rfl, .inl (SqL.of (s1 _ _ hpl)), fun lb hlb0 => ?_⟩
    have s2 := Same.new (o := .lst (ps.map vN)) hlb0
    refine ⟨(by show 2 ≤ sizeLine; decide), fun th hth0 => ?_⟩
    have s3 := Same.new (o := .tup [V.ref la, V.ref lb]) hth0
    have hla := s3 _ _ (s2 _ _ (upd_same (H := H) (a := la) (o := .lst (rs.map fun (r : Rl) => V.ref r.r))))
    have hlb := s3 _ _ (upd_same (H := upd H la (.lst (rs.map fun (r : Rl) => V.ref r.r))) (a := lb) (o := .lst (ps.map vN)))
    have hth : (upd (upd (upd H la (.lst (rs.map fun (r : Rl) => V.ref r.r))) lb (.lst (ps.map vN))) th (.tup [V.ref la, V.ref lb])) th = some (.tup [V.ref la, V.ref lb]) := upd_same
    have s0 := (s1.trans s2).trans s3
    have T1 := T0.same s0
    have hRsH := hRs.same s0
    generalize upd (upd (upd H la (.lst (rs.map fun (r : Rl) => V.ref r.r))) lb (.lst (ps.map vN))) th (.tup [V.ref la, V.ref lb]) = H1 at hla hlb hth s0 T1 hRsH
    refine ⟨T1, fun g c H2 bA tA nA hlm hcm pins sI I1 => ⟨g, b, rfl, ⟨b2, ?_⟩, fun H3 sB => ?_⟩⟩
    · have hth2 := tab_but T1 bA hth fun _ z => (nomatch z)
      have hla2 := tab_but T1 bA hla fun _ z => (nomatch z)
      have hlb2 := tab_but T1 bA hlb fun _ z => (nomatch z)
      have hRs2 := hRsH.butT T1 bA
      refine ⟨⟨_, _, _, _, _, _, hlm⟩, fun A' outer' s' hr' e0 kp => ?_⟩
      have S : LScope (cxOf CX0 P w K mg base ["_law_many", "_law_rules_here", "_law_parts_here", "_law_due", "_law_handed", "_law_first", "_law_second"] "_law_parted" (defScope sParted) f (.ref cc) A outer s H E) false "" lamF := (lsc (o := false) (x0 := "") (sc := lamF) ["_law_many", "_law_rules_here", "_law_parts_here", "_law_due", "_law_handed", "_law_first", "_law_second"] (defScope sParted) rfl rfl (by decide +kernel) (fun _ _ => rfl) (fun _ => rfl))
      rcases hP with bad | ⟨rfl, l1, l10, full⟩
      · refine lamM_code S (ClAt.of I1 rfl rfl (fun _ => rfl) kp) e0 hr' hlm hcm (fun _ _ => rfl) (pe_call GFLX ((hr'.mono (by decide : 7 ≤ 20)).deeper _) rfl mFL kFL bFL .nil (passM (E := fun C _ H' => Same H2 H' ∧ ((b = 1 ∧ C = .ref CCN) ∨ (b = 2 ∧ C = .ref CTM))) fun _ _ z => z) (pa_cons (pv 0) (pa_cons (pe_ix (ix_tupK (K := K) rfl) (pv 4) pe_int (fun _ _ => rfl)) (pa_cons (pe_ix (ix_tupK (K := K) rfl) (pv 4) pe_int (fun _ _ => rfl)) pa_nil)))) ?_
        exact ⟨_, rfl, _, rfl, th, _, _, _, rfl, rfl, SqT.of hth2, atI_nat (j := 0) rfl, _, rfl, th, _, _, _, rfl, rfl, SqT.of hth2, atI_nat (j := 1) rfl, m, b, la, lb, ps, rfl, m7, SqL.of hlb2, lp, bad, bad_ex bad _ (Same.refl _)⟩
      · refine lamM_code S (ClAt.of I1 rfl rfl (fun _ => rfl) kp) e0 hr' hlm hcm (fun _ _ => rfl) (pe_call GFL ((hr'.mono (by decide : 7 ≤ 20)).deeper _) rfl mFL kFL bFL .nil pass0 (pa_cons (pv 0) (pa_cons (pe_ix (ix_tupK (K := K) rfl) (pv 4) pe_int (fun _ _ => rfl)) (pa_cons (pe_ix (ix_tupK (K := K) rfl) (pv 4) pe_int (fun _ _ => rfl)) pa_nil)))) ?_
        exact ⟨_, rfl, _, rfl, th, _, _, _, rfl, rfl, SqT.of hth2, atI_nat (j := 0) rfl, _, rfl, th, _, _, _, rfl, rfl, SqT.of hth2, atI_nat (j := 1) rfl, m, la, lb, rs, ps, rfl, m1, m7, SqL.of hla2, hRs2, by omega, SqL.of hlb2, l10, full, fun t tl sl ts sw H' sx _ _ _ _ _ _ _ _ _ _ => ⟨rfl, sx⟩⟩

    have hth3 := sB _ _ (tab_but T1 bA hth fun _ z => (nomatch z))
    have hla3 := sB _ _ (tab_but T1 bA hla fun _ z => (nomatch z))
    have hlb3 := sB _ _ (tab_but T1 bA hlb fun _ z => (nomatch z))
    have hRs3 := (hRsH.butT T1 bA).same sB
    have hrl3 := sB _ _ (tab_but T1 bA (s0 _ _ hrl) fun _ z => (nomatch z))
    have hpl3 := sB _ _ (tab_but T1 bA (s0 _ _ hpl) fun _ z => (nomatch z))
    have T3 := tA.same sB
    have B3 : But PT H H3 := fun x o e n => sB _ _ (bA x o (s0 _ _ e) n)
    clear I1 sI pins hlm hcm nA tA bA
    refine ⟨T3, fun g c H4 bA tA nA hlm hcm pins sI I1 => ⟨g, b, rfl, ⟨b2, ?_⟩, fun H5 sB => ?_⟩⟩
    · have hth2 := tab_but T3 bA hth3 fun _ z => (nomatch z)
      have hla2 := tab_but T3 bA hla3 fun _ z => (nomatch z)
      have hlb2 := tab_but T3 bA hlb3 fun _ z => (nomatch z)
      have hRs2 := hRs3.butT T3 bA
      refine ⟨⟨_, _, _, _, _, _, hlm⟩, fun A' outer' s' hr' e0 kp => ?_⟩
      have S : LScope (cxOf CX0 P w K mg base ["_law_many", "_law_rules_here", "_law_parts_here", "_law_due", "_law_handed", "_law_first", "_law_second"] "_law_parted" (defScope sParted) f (.ref cc) A outer s H E) false "" lamS := (lsc (o := false) (x0 := "") (sc := lamS) ["_law_many", "_law_rules_here", "_law_parts_here", "_law_due", "_law_handed", "_law_first", "_law_second"] (defScope sParted) rfl rfl (by decide +kernel) (fun _ _ => rfl) (fun _ => rfl))
      rcases hP with bad | ⟨rfl, l1, l10, full⟩
      · refine lamM_code S (ClAt.of I1 rfl rfl (fun _ => rfl) kp) e0 hr' hlm hcm (fun _ _ => rfl) (pe_call GSFX ((hr'.mono (by decide : 8 ≤ 20)).deeper _) rfl mSF kSF bSF .nil (passM (E := fun C _ H' => Same H4 H' ∧ ((b = 1 ∧ C = .ref CCN) ∨ (b = 2 ∧ C = .ref CTM))) fun _ _ z => z) (pa_cons (pv 0) (pa_cons (pe_ix (ix_tupK (K := K) rfl) (pv 4) pe_int (fun _ _ => rfl)) (pa_cons (pe_ix (ix_tupK (K := K) rfl) (pv 4) pe_int (fun _ _ => rfl)) pa_nil)))) ?_
        exact ⟨_, rfl, _, rfl, th, _, _, _, rfl, rfl, SqT.of hth2, atI_nat (j := 0) rfl, _, rfl, th, _, _, _, rfl, rfl, SqT.of hth2, atI_nat (j := 1) rfl, m, b, la, lb, ps, rfl, m1, m7, SqL.of hlb2, lp, bad, fun H' sx => bad_ex bad _ sx⟩
      · refine lamM_code S (ClAt.of I1 rfl rfl (fun _ => rfl) kp) e0 hr' hlm hcm (fun _ _ => rfl) (pe_call GSF ((hr'.mono (by decide : 8 ≤ 20)).deeper _) rfl mSF kSF bSF .nil pass0 (pa_cons (pv 0) (pa_cons (pe_ix (ix_tupK (K := K) rfl) (pv 4) pe_int (fun _ _ => rfl)) (pa_cons (pe_ix (ix_tupK (K := K) rfl) (pv 4) pe_int (fun _ _ => rfl)) pa_nil)))) ?_
        exact ⟨_, rfl, _, rfl, th, _, _, _, rfl, rfl, SqT.of hth2, atI_nat (j := 0) rfl, _, rfl, th, _, _, _, rfl, rfl, SqT.of hth2, atI_nat (j := 1) rfl, m, la, lb, rs, ps, rfl, m1, m7, SqL.of hla2, hRs2, by omega, SqL.of hlb2, l10, full, fun z H' sx _ => ⟨rfl, sx⟩⟩

    have hth5 := sB _ _ (tab_but T3 bA hth3 fun _ z => (nomatch z))
    have hla5 := sB _ _ (tab_but T3 bA hla3 fun _ z => (nomatch z))
    have hlb5 := sB _ _ (tab_but T3 bA hlb3 fun _ z => (nomatch z))
    have hRs5 := (hRs3.butT T3 bA).same sB
    have hrl5 := sB _ _ (tab_but T3 bA hrl3 fun _ z => (nomatch z))
    have hpl5 := sB _ _ (tab_but T3 bA hpl3 fun _ z => (nomatch z))
    have T5 := tA.same sB
    have B5 : But PT H H5 := fun x o e n => sB _ _ (bA x o (B3 x o e n) n)
    refine ⟨_, rfl, _, rfl, rfl, _, rfl, ?_⟩
    rw [decide_eq_true rfl]
    refine iteT ⟨_, rfl, _, rfl, rfl, _, rfl, ?_⟩
    rw [decide_eq_true rfl]
    refine iteT ⟨_, rfl, _, rfl, _, rfl, (by show 2 ≤ sizeLine; decide), fun t2 ht2 => ?_⟩
    have s6 := Same.new (o := .tup [V.ref rl, V.ref pl]) ht2
    obtain ⟨pe1, pe2, pe3⟩ := pair_eq (rs.map Rl.d) (ps.map fun (k : Nat) => (k : Int))
    refine ⟨dPair (rs.map Rl.d) (ps.map fun (k : Nat) => (k : Int)), dPair (rs.map Rl.d) (ps.map fun (k : Nat) => (k : Int)), pair_dv (s6 _ _ hth5) (s6 _ _ hla5) (hRs5.same s6) (s6 _ _ hlb5), pair_dv upd_same (s6 _ _ hrl5) (hRs5.same s6) (s6 _ _ hpl5), pe3, pe3, pe2, ?_⟩
    rw [if_neg Bool.false_ne_true, pe1]
    exact q _ (B5.trans s6.but) (T5.same s6)
end
end Own

namespace L2
open PySem PySem.Spec PyProof.Rows
theorem fold_lt {m : Nat} : ∀ (ps : List Nat) (a : Nat), a < 2 ^ m → (∀ p ∈ ps, p < 2 ^ m) → ps.foldl (· ||| ·) a < 2 ^ m
  | [], a, h, _ => h
  | p :: ps, a, h, hp => fold_lt ps (a ||| p) (Nat.or_lt_two_pow h (hp p List.mem_cons_self)) fun q hq => hp q (List.mem_cons_of_mem _ hq)
theorem lacks {m c x : Nat} (hc : c < m) (hx : x < 2 ^ m) (h : ¬ HasB x c) : x < 2 ^ m - 1 := by
  have : x ≠ 2 ^ m - 1 := fun z => h (by rw [z]; exact (hasb_all c).mpr hc)
  omega
theorem has_pow (c k : Nat) : HasB (2 ^ c) k ↔ k = c := by
  unfold HasB
  rw [Nat.testBit_two_pow]
  simp only [decide_eq_true_eq]
  exact eq_comm
noncomputable def lessC (c p : Nat) : Nat := p - (p &&& 2 ^ c)
theorem less_has (c p k : Nat) : HasB (lessC c p) k ↔ HasB p k ∧ k ≠ c := by
  unfold lessC
  rw [hasb_out, has_pow]
theorem less_lt {m c p : Nat} (h : p < 2 ^ m) : lessC c p < 2 ^ m := Nat.lt_of_le_of_lt (Nat.sub_le _ _) h
theorem less_or {m c : Nat} (hc : c < m) (ps : List Nat) (hp : ∀ p ∈ ps, p < 2 ^ m) : (ps.map (lessC c)).foldl (· ||| ·) 0 < 2 ^ m - 1 := by
  refine lacks hc (fold_lt _ _ (Nat.two_pow_pos m) fun q hq => ?_) fun h => ?_
  · obtain ⟨p, h1, rfl⟩ := List.mem_map.mp hq
    exact less_lt (hp p h1)
  · rcases (or_bits c _ 0).mp h with z | ⟨q, hq, z⟩
    · exact absurd z (by unfold HasB; rw [Nat.zero_testBit]; exact Bool.false_ne_true)
    · obtain ⟨p, _, rfl⟩ := List.mem_map.mp hq
      exact ((less_has c p c).mp z).2 rfl
theorem full_more {m : Nat} (ps xs : List Nat) (hp : ∀ p ∈ ps ++ xs, p < 2 ^ m) (l : ps.length ≤ 10) (h : ps.foldl (· ||| ·) 0 = 2 ^ m - 1) : ((ps ++ xs).take 10).foldl (· ||| ·) 0 = 2 ^ m - 1 := by
  refine bits_eq fun k => ⟨fun z => ?_, fun z => ?_⟩
  · rw [hasb_all]
    exact hasb_lt (fold_lt _ _ (Nat.two_pow_pos m) fun q hq => hp q (List.mem_of_mem_take hq)) z
  · rw [← h] at z
    rcases (or_bits k _ 0).mp z with z | ⟨q, hq, z⟩
    · exact (or_bits k _ 0).mpr (.inl z)
    · refine (or_bits k _ 0).mpr (.inr ⟨q, ?_, z⟩)
      rw [List.take_append]
      exact List.mem_append_left _ (by rw [List.take_of_length_le l]; exact hq)
theorem other_full {m x t : Nat} (hx : x < 2 ^ m) (ht : t < 2 ^ m) : x ||| ((2 ^ m - 1 - x) ||| t) = 2 ^ m - 1 ∧ (2 ^ m - 1 - x) ||| t < 2 ^ m := by
  have l : 2 ^ m - 1 - x < 2 ^ m := by have := Nat.two_pow_pos m; omega
  have lo := Nat.or_lt_two_pow l ht
  refine ⟨or_full hx lo fun k hk => ?_, lo⟩
  by_cases z : HasB x k
  · exact .inl z
  · exact .inr ((hasb_or _ _ k).mpr (.inl ((hasb_full hx k).mpr ⟨hk, z⟩)))
theorem cut_lacks {m c x y : Nat} (hc : c < m) (hx : x < 2 ^ m) (hy : y < 2 ^ m) : lessC c x ||| lessC c y < 2 ^ m - 1 := by
  refine lacks hc (Nat.or_lt_two_pow (less_lt hx) (less_lt hy)) fun h => ?_
  rcases (hasb_or _ _ c).mp h with z | z
  · exact ((less_has c x c).mp z).2 rfl
  · exact ((less_has c y c).mp z).2 rfl
theorem tab2_but {P P' : Addr} {q : Str} {H H' : Hp} (T : TabAt P q H) (b : But P' H H') (ne : P ≠ P') {qs : Str} (T' : TabAt P' qs H) : TabAt P q H' := by
  obtain ⟨es, h1, h2⟩ := T
  obtain ⟨es', h3, _⟩ := T'
  exact ⟨es, b _ _ h1 ne, fun e he => b _ _ (h2 e he) (ne_of (h2 e he) h3 fun z => nomatch z)⟩
end L2

namespace Own
open PySem L2
section
variable {P : Program} {w : World} {K : PySem.W.Frag} {mg : Str → Option Value} {base : Heap}
seal PySem.wpAny
theorem tabF {K : PySem.W.Frag} {H H' : Hp} {st PT : Addr} {ns : List Int} {k : Nat} {qu : Str} (S : STF K H st ns k) (T : TabAt PT qu H) (B : But st H H') : TabAt PT qu H' := let ⟨_, h, _⟩ := S; T.but B fun o e => by rw [h] at e; cases e; exact ⟨fun _ z => (nomatch z), fun _ z => (nomatch z)⟩
noncomputable def spLawT (K : PySem.W.Frag) (ts : List Addr) : Sp := fun vs H Q _ => ∃ (a : Addr) (ns : List Int), vs = [.ref a] ∧ SqF K H a ns ∧ ns.length ≤ 63 ∧ (∀ P ∈ ts, H P = some (.tbl #[])) ∧ ∀ H', Q (.bl true) H'
noncomputable abbrev lamC : Scope := { kind := .function, names := [("_law_column", .free), ("_law_many", .free), ("_law_one", .free), ("_law_other", .free), ("_law_rules_here", .free), ("cut_in_two", .globalImplicit)], isGenerator := false, isCoroutine := false }
noncomputable abbrev lamG : Scope := { kind := .function, names := [("_law_many", .free), ("_law_one", .free), ("_law_other", .free), ("_law_rules_here", .free), ("cut_in_two", .globalImplicit)], isGenerator := false, isCoroutine := false }
noncomputable abbrev sLaw : Stmt := top 44
theorem scLaw : FnScope ["_law_script", "_law_state", "_law_many", "_law_rules_here", "_law_column", "_law_parts_here", "_law_fewer", "_law_more", "_law_lacking", "_law_one", "_law_other"] ["_law_script"] (defScope sLaw) := ⟨rfl, rfl, rfl, by decide +kernel, rfl, by decide +kernel, by decide +kernel⟩

theorem ok_law {f fT fTH fRU fPA fHE fPD fCT cc PT PD CCN CTM : Addr} {fd fdT fdTH fdRU fdPA fdHE fdPD fdCT : FuncData} (F : Fun K "law" "law" sLaw f fd) (hcode : fd.code = .ref cc) (CH : PySem.W.CodeHd base cc PT) (hbm : BMod mg base) (nPP : PT ≠ PD) (GT : FnOk P w K mg base CX0 1 fT fdT ["_law_state", "_law_most"] (spTakeF K)) (mT : mg "_law_take" = some (.ref fT)) (kT : PySem.W.keepIn K (.ref fT) = true) (bT : Binds K fdT ["_law_state", "_law_most"] []) (GTH : FnOk P w K mg base CX0 2 fTH fdTH ["_law_state", "_law_many"] (spThin K)) (mTH : mg "_law_thin" = some (.ref fTH)) (kTH : PySem.W.keepIn K (.ref fTH) = true) (bTH : Binds K fdTH ["_law_state", "_law_many"] []) (GRU : FnOk P w K mg base CX0 3 fRU fdRU ["_law_state", "_law_many"] (spTRules K)) (mRU : mg "_law_rules" = some (.ref fRU)) (kRU : PySem.W.keepIn K (.ref fRU) = true) (bRU : Binds K fdRU ["_law_state", "_law_many"] []) (GPA : FnOk P w K mg base CX0 3 fPA fdPA ["_law_state", "_law_many", "_law_most"] (spParts53 K)) (mPA : mg "_law_parts" = some (.ref fPA)) (kPA : PySem.W.keepIn K (.ref fPA) = true) (bPA : Binds K fdPA ["_law_state", "_law_many", "_law_most"] []) (GHE : FnAt P w K mg base CX0 21 fHE fdHE ["_law_ask"] (spHeard P w K mg base CCN CTM)) (mHE : mg "_law_heard" = some (.ref fHE)) (kHE : PySem.W.keepIn K (.ref fHE) = true) (bHE : Binds K fdHE ["_law_ask"] []) (GPD : FnOk P w K mg base CX0 22 fPD fdPD ["_law_many", "_law_rules_here", "_law_parts_here", "_law_due"] (spParted K PD)) (mPD : mg "_law_parted" = some (.ref fPD)) (kPD : PySem.W.keepIn K (.ref fPD) = true) (bPD : Binds K fdPD ["_law_many", "_law_rules_here", "_law_parts_here", "_law_due"] []) (GCT : FnOk P w K mg base CX0 4 fCT fdCT ["many", "rules", "one", "other"] (spCut K vN)) (mCT : mg "cut_in_two" = some (.ref fCT)) (kCT : PySem.W.keepIn K (.ref fCT) = true) (bCT : Binds K fdCT ["many", "rules", "one", "other"] []) (GCTX : FnOk P w K mg base (CX1 P w) 4 fCT fdCT ["many", "rules", "one", "other"] (spCutX CCN)) (zrange : mg "range" = none) (zlen : mg "len" = none) : FnOk P w K mg base CX0 23 f fd ["_law_script"] (spLawT K [PD, PT]) := by
  refine F.okT hcode scLaw (fun vs H Q E h => ?_) (fun A outer s H vs Q E hr h => ?_)
  · obtain ⟨a, ns, rfl, _⟩ := h
    rfl
  · obtain ⟨a, ns, rfl, hS, hlen, hT, q⟩ := h
    have T0 := TabAt.nil (qual := qL) (hT PT (List.mem_cons_of_mem _ (List.mem_singleton.mpr rfl)))
    have U0 := TabAt.nil (qual := qP) (hT PD (List.mem_cons_self ..))
    have nd := scLaw.nd
    have hr1 : Room 1 _ := hr.mono (by decide)
    have hr2 : Room 2 _ := hr.mono (by decide)
    have hr3 : Room 3 _ := hr.mono (by decide)
    have hr21 : Room 21 _ := hr.mono (by decide)
    refine ⟨_, (pss_cons (ps_set (i := 1) nd rfl (Or.inr rfl) (pe_lst (pa_cons (pv 0) (pa_cons pe_int pa_nil))))
      (pss_cons (ps_set (i := 2) nd rfl (Or.inr rfl) (pe_op op_addN pe_int (pe_call GT hr1 rfl mT kT bT .nil pass0 (pa_cons (pv 1) (pa_cons pe_int pa_nil)))))
      (pss_cons (ps_set (i := 3) nd rfl (Or.inr rfl) (pe_call GRU hr3 rfl mRU kRU bRU .nil pass0 (pa_cons (pv 1) (pa_cons (pv 2) pa_nil))))
      (pss_cons (ps_set (i := 4) nd rfl (Or.inr rfl) (pe_op op_shl1 pe_int (pe_call GT hr1 rfl mT kT bT .nil pass0 (pa_cons (pv 1) (pa_cons (pv 2) pa_nil)))))
      (pss_cons (ps_set (i := 5) nd rfl (Or.inl rfl) (pe_call GPA hr3 rfl mPA kPA bPA .nil pass0 (pa_cons (pv 1) (pa_cons (pv 2) (pa_cons pe_int pa_nil)))))
      (pss_cons (ps_comp (i := 6) (xs := ["_law_part"]) (cs ["_law_script", "_law_state", "_law_many", "_law_rules_here", "_law_column", "_law_parts_here", "_law_fewer", "_law_more", "_law_lacking", "_law_one", "_law_other"] (defScope sLaw) rfl rfl (by decide +kernel)) rfl nd rfl rfl (pi_listK (K := K) rfl (pv 5)) (fun _ _ _ => pg_name (i := 0) (show (["_law_part", "_law_script", "_law_state", "_law_many", "_law_rules_here", "_law_column", "_law_parts_here", "_law_fewer", "_law_more", "_law_lacking", "_law_one", "_law_other"] : List Str).Nodup by decide +kernel) rfl (Or.inl rfl)) (fun _ _ _ => pts_nil) (fun _ _ _ => (pe_op op_subN (pv 0) (pe_op op_andN (pv 0) (pv 5)))))
      (pss_cons (ps_set (i := 7) nd rfl (Or.inl rfl) (pe_op op_cat (pv 5) (pe_comp (xs := ["_law_k"]) (cs ["_law_script", "_law_state", "_law_many", "_law_rules_here", "_law_column", "_law_parts_here", "_law_fewer", "_law_more", "_law_lacking", "_law_one", "_law_other"] (defScope sLaw) rfl rfl (by decide +kernel)) rfl (pi_range1 rfl zrange (pa_cons (pe_op op_addN (pe_op op_subN pe_int (pe_callB (call_lenK (K := K) rfl) (by rfl) zlen PySem.boot_len (pa_cons (pv 5) pa_nil))) (pe_call GT hr1 rfl mT kT bT .nil pass0 (pa_cons (pv 1) (pa_cons pe_int pa_nil)))) pa_nil)) (fun _ _ _ => pg_name (i := 0) (show (["_law_k", "_law_script", "_law_state", "_law_many", "_law_rules_here", "_law_column", "_law_parts_here", "_law_fewer", "_law_more", "_law_lacking", "_law_one", "_law_other"] : List Str).Nodup by decide +kernel) rfl (Or.inl rfl)) (fun _ _ _ => pts_nil) (fun _ _ _ => (pe_call GTH hr2 rfl mTH kTH bTH .nil pass0 (pa_cons (pv 2) (pa_cons (pv 3) pa_nil)))))))
      (pss_cons (ps_comp (i := 8) (xs := ["_law_part"]) (cs ["_law_script", "_law_state", "_law_many", "_law_rules_here", "_law_column", "_law_parts_here", "_law_fewer", "_law_more", "_law_lacking", "_law_one", "_law_other"] (defScope sLaw) rfl rfl (by decide +kernel)) rfl nd rfl rfl (pi_listK (K := K) rfl (pv 7)) (fun _ _ _ => pg_name (i := 0) (show (["_law_part", "_law_script", "_law_state", "_law_many", "_law_rules_here", "_law_column", "_law_parts_here", "_law_fewer", "_law_more", "_law_lacking", "_law_one", "_law_other"] : List Str).Nodup by decide +kernel) rfl (Or.inl rfl)) (fun _ _ _ => pts_nil) (fun _ _ _ => (pe_op op_subN (pv 0) (pe_op op_andN (pv 0) (pv 5)))))
      (pss_cons (ps_set (i := 9) nd rfl (Or.inr rfl) (pe_call GT hr1 rfl mT kT bT .nil pass0 (pa_cons (pv 1) (pa_cons (pe_op op_shl1 pe_int (pv 2)) pa_nil))))
      (pss_cons (ps_set (i := 10) nd rfl (Or.inr rfl) (pe_op op_orN (pe_op op_subN (pe_op op_subN (pe_op op_shl1 pe_int (pv 2)) pe_int) (pv 9)) (pe_call GTH hr2 rfl mTH kTH bTH .nil pass0 (pa_cons (pv 1) (pa_cons (pv 2) pa_nil)))))
      (pss_cons (ps_if (pt_cmpR op_ne (pe_callS GHE hr21 (by rfl) mHE kHE bHE (pa_cons (pe_lam (P := PT) (qual := qL) rfl CH hbm rfl (lsc (o := false) (x0 := "") (sc := lamC) ["_law_script", "_law_state", "_law_many", "_law_rules_here", "_law_column", "_law_parts_here", "_law_fewer", "_law_more", "_law_lacking", "_law_one", "_law_other"] (defScope sLaw) rfl rfl (by decide +kernel) (fun _ _ => rfl) (fun _ => rfl)).frees) pa_nil)) pe_str (nomark _)) (pss_one (ps_ret pe_bl)) pss_nil)
      (pss_cons (ps_if (PW.pt (pw_or (pt_not (pt_val (pe_call GPD hr rfl mPD kPD bPD .nil pass0 (pa_cons (pv 2) (pa_cons (pv 3) (pa_cons (pv 6) (pa_cons pe_str pa_nil))))))) (pw_or1 (pt_not (pt_val (pe_call GPD hr rfl mPD kPD bPD .nil pass0 (pa_cons (pv 2) (pa_cons (pv 3) (pa_cons (pe_lst pa_nil) (pa_cons pe_str pa_nil)))))))))) (pss_one (ps_ret pe_bl)) pss_nil)
      (pss_cons (ps_if (PW.pt (pw_or (pt_not (pt_val (pe_call GPD hr rfl mPD kPD bPD .nil pass0 (pa_cons (pv 2) (pa_cons (pv 3) (pa_cons (pv 7) (pa_cons pe_str pa_nil))))))) (pw_or1 (pt_not (pt_val (pe_call GPD hr rfl mPD kPD bPD .nil pass0 (pa_cons (pv 2) (pa_cons (pv 3) (pa_cons (pv 8) (pa_cons pe_str pa_nil)))))))))) (pss_one (ps_ret pe_bl)) pss_nil)
      (pss_cons (ps_if (pt_cmpR op_ne (pe_callS GHE hr21 (by rfl) mHE kHE bHE (pa_cons (pe_lam (P := PT) (qual := qL) rfl CH hbm rfl (lsc (o := false) (x0 := "") (sc := lamG) ["_law_script", "_law_state", "_law_many", "_law_rules_here", "_law_column", "_law_parts_here", "_law_fewer", "_law_more", "_law_lacking", "_law_one", "_law_other"] (defScope sLaw) rfl rfl (by decide +kernel) (fun _ _ => rfl) (fun _ => rfl)).frees) pa_nil)) pe_str (nomark _)) (pss_one (ps_ret pe_bl)) pss_nil)
      (pss_one (ps_ret (pe_and (pe_call GPD hr rfl mPD kPD bPD .nil pass0 (pa_cons (pv 2) (pa_cons (pv 3) (pa_cons (pv 5) (pa_cons pe_str pa_nil))))) (pe_one (pe_call GPD hr rfl mPD kPD bPD .nil pass0 (pa_cons (pv 2) (pa_cons (pv 3) (pa_cons (pe_slice sl_list (pv 7) po_none (po_some pe_int)) (pa_cons pe_str pa_nil))))))))))))))))))))))), ?_⟩
    refine ⟨_, rfl, (by show 2 ≤ sizeLine; decide), fun st hst => ?_⟩
    have S0 := STF.start hS hst
    have T0 := T0.same (Same.new (o := .lst [.ref a, .int 0]) hst)
    have U0 := U0.same (Same.new (o := .lst [.ref a, .int 0]) hst)
    generalize upd H st (.lst [.ref a, .int 0]) = H0 at S0 T0 U0
    refine ⟨_, rfl, st, ns, 0, 7, rfl, S0, by omega, hlen, by decide, fun r1 H1 a1 b1 S1 B1 => ?_⟩
    obtain ⟨n1, rfl, hn1⟩ := nat_of (n := 7) a1 b1
    have T1 := tabF S0 T0 B1
    have U1 := tabF S0 U0 B1
    refine ⟨1, n1, rfl, rfl, ?_⟩
    have m1 : 1 ≤ 1 + n1 := by omega
    have m7 : 1 + n1 ≤ 7 := by omega
    dsimp only
    generalize 1 + n1 = m at m1 m7
    have pw0 : 0 < 2 ^ m := Nat.two_pow_pos m
    have p7 := pow7 m7
    refine ⟨_, rfl, _, rfl, st, ns, 1, m, rfl, S1, by omega, hlen, m1, m7, fun rs rp k2 H2 R2 lrs hk2 => ?_⟩
    have T2 := tabF S1 T1 R2.B
    have U2 := tabF S1 U1 R2.B
    refine ⟨_, rfl, _, rfl, st, ns, k2, m, rfl, R2.S, by omega, hlen, by omega, fun r3 H3 a3 b3 S3 B3 => ?_⟩
    obtain ⟨c, rfl, hc⟩ := nat_of (n := m) a3 b3
    have R3 := R2.take S3 B3
    have T3 := tabF R2.S T2 B3
    have U3 := tabF R2.S U2 B3
    refine ⟨c, rfl, rfl, by omega, ?_⟩
    refine ⟨_, rfl, _, rfl, st, ns, k2 + 1, m, 10, rfl, S3, by omega, hlen, m1, m7, by decide, by decide, fun ps pp k4 H4 hps l1 l10 full hk4 S4 B4 hpp0 npp hpp => ?_⟩
    have R4 := R3.take S4 B4
    have T4 := tabF S3 T3 B4
    have U4 := tabF S3 U3 B4
    have hrp4 := R4.hg
    have hRs4 := R4.at_
    have nrp : rp ≠ st := R4.hgs
    have lpm : (ps.map vN).length = ps.length := List.length_map ..
    refine ⟨_, rfl, pp, rfl, ⟨_, SqL.of hpp⟩, lc_list (K := K) (xs := ps.map vN) (fun k acc H' => H' = H4 ∧ acc = ((ps.take k).map (lessC c)).map vN) (by rw [lpm]; omega) ⟨rfl, rfl⟩ (fun k acc H' hk h => ?_) (fun k u acc H' hu h => ?_) (fun acc H' h => ?_)⟩
    · obtain ⟨rfl, rfl⟩ := h
      exact ⟨SqL.of hpp, by rw [List.length_map, List.length_map]; exact Nat.le_trans (List.length_take_le _ _) (Nat.le_refl _)⟩
    · obtain ⟨rfl, rfl⟩ := h
      rw [List.getElem?_map] at hu
      cases ep : ps[k]? with
      | none => rw [ep] at hu; cases hu
      | some p =>
        rw [ep] at hu
        obtain rfl := (Option.some.inj hu).symm
        refine ⟨rfl, _, rfl, _, rfl, _, rfl, p, 2 ^ c, rfl, rfl, p, p &&& 2 ^ c, rfl, rfl, Nat.and_le_left, rfl, ?_⟩
        rw [List.take_add_one, ep, List.map_append, List.map_append]
        rfl
    obtain ⟨rfl, rfl⟩ := h
    rw [lpm, List.take_length]
    intro lf hlf0
    have s5 := Same.new (o := .lst ((ps.map (lessC c)).map vN)) hlf0
    have hlf : (upd H' lf (.lst ((ps.map (lessC c)).map vN))) lf = some (.lst ((ps.map (lessC c)).map vN)) := upd_same
    have nlf : lf ≠ st := (stf_fresh S4 (But.refl _ _) hlf0).2
    have S5 := S4.same s5
    have hrp5 := s5 _ _ hrp4
    have hRs5 := hRs4.same s5
    have hpp5 := s5 _ _ hpp
    have T5 := T4.same s5
    have U5 := U4.same s5
    generalize upd H' lf (.lst ((ps.map (lessC c)).map vN)) = H5 at hlf S5 hrp5 hRs5 hpp5 T5 U5
    clear s5 R4 R3 R2 T4 U4 T3 U3 T2 U2 T1 U1 T0 U0
    refine ⟨_, rfl, _, rfl, pp, _, rfl, .inl (SqL.of hpp5), 11, (ps.map vN).length, rfl, rfl, by rw [lpm]; omega, _, rfl, st, ns, k4, 4, rfl, S5, by omega, hlen, by decide, fun r6 H6 a6 b6 S6 B6 => ?_⟩
    obtain ⟨w6, rfl, hw6⟩ := nat_of (n := 4) a6 b6
    have hrp6 := B6 _ _ hrp5 nrp
    have hpp6 := B6 _ _ hpp5 npp
    have hlf6 := B6 _ _ hlf nlf
    have hRs6 : RulesAt H6 m rs := fun r hr' => ⟨stf_tup S5 B6 (hRs5 r hr').1, (hRs5 r hr').2⟩
    have T6 := tabF S5 T5 B6
    have U6 := tabF S5 U5 B6
    refine ⟨11 - (ps.map vN).length, w6, rfl, rfl, ((11 - (ps.map vN).length + w6 : Nat) : Int), rfl, by omega, by omega, lc_rangeN (k := 11 - (ps.map vN).length + w6) (n := 1) (fun i acc H' => ∃ (k : Nat) (xs : List Nat), k ≤ k4 + 1 + 4 * i ∧ STF K H' st ns k ∧ But st H6 H' ∧ acc = xs.map vN ∧ xs.length = i ∧ ∀ x ∈ xs, x < 2 ^ m) (by omega) ⟨k4 + 1, [], by omega, S6, But.refl _ _, rfl, rfl, (fun _ h => by cases h)⟩ (fun i acc H' hi h => ?_) (fun i acc H' hi h => ?_) (fun acc H7 h => ?_)⟩
    · obtain ⟨_, xs, _, _, _, rfl, e, _⟩ := h
      rw [List.length_map, e]; exact Nat.le_refl _
    · obtain ⟨k, xs, hk, S7, B7, rfl, e, hx⟩ := h
      refine ⟨rfl, _, rfl, _, rfl, st, ns, k, m, rfl, S7, by omega, hlen, m1, m7, fun r k' H8 hr' hk' S8 B8 => ?_⟩
      refine ⟨k', xs ++ [r], by omega, S8, B7.trans B8, by rw [List.map_append]; rfl, by rw [List.length_append, e]; rfl, fun x hx' => ?_⟩
      rcases List.mem_append.mp hx' with z | z
      · exact hx x z
      · rw [List.mem_singleton.mp z]; exact hr'
    obtain ⟨k7, xs, hk7, S7, B7, rfl, lxs, hxs⟩ := h
    have hrp7 := B7 _ _ hrp6 nrp
    have hpp7 := B7 _ _ hpp6 npp
    have hlf7 := B7 _ _ hlf6 nlf
    have hRs7 : RulesAt H7 m rs := fun r hr' => ⟨stf_tup S6 B7 (hRs6 r hr').1, (hRs6 r hr').2⟩
    have T7 := tabF S6 T6 B7
    have U7 := tabF S6 U6 B7
    intro l8 hl80
    have s8 := Same.new (o := .lst (xs.map vN)) hl80
    refine ⟨pp, l8, _, _, rfl, rfl, s8 _ _ hpp7, upd_same, (by rw [lpm, List.length_map, lxs]; exact Nat.le_trans (show _ ≤ 100 by omega) (by decide)), fun lm hlm0 => ?_⟩
    have s9 := Same.new (o := .lst (ps.map vN ++ xs.map vN)) hlm0
    have hlm : (upd (upd H7 l8 (.lst (xs.map vN))) lm (.lst (ps.map vN ++ xs.map vN))) lm = some (.lst ((ps ++ xs).map vN)) := by rw [upd_same, List.map_append]
    have s89 := s8.trans s9
    have nlm : lm ≠ st := (stf_fresh (S7.same s8) (But.refl _ _) hlm0).2
    have S9 := S7.same s89
    have hrp9 := s89 _ _ hrp7
    have hpp9 := s89 _ _ hpp7
    have hlf9 := s89 _ _ hlf7
    have hRs9 := hRs7.same s89
    have T9 := T7.same s89
    have U9 := U7.same s89
    generalize upd (upd H7 l8 (.lst (xs.map vN))) lm (.lst (ps.map vN ++ xs.map vN)) = H9 at hlm S9 hrp9 hpp9 hlf9 hRs9 T9 U9
    clear s89 s9 s8 hlm0 hl80 S7 hrp7 hpp7 hlf7 hRs7 T7 U7 S6 B7 hrp6 hpp6 hlf6 hRs6 T6 U6 B6 S5 hrp5 hpp5 hRs5 T5 U5
    have hall : ∀ p ∈ ps ++ xs, p < 2 ^ m := fun p hp => (List.mem_append.mp hp).elim (hps p) (hxs p)
    have lmo : (ps ++ xs).length = 11 + w6 := by rw [List.length_append, lxs, lpm]; omega
    have lpm2 : ((ps ++ xs).map vN).length = (ps ++ xs).length := List.length_map ..
    generalize emo : ps ++ xs = mo at hlm hall lmo lpm2
    refine ⟨_, rfl, lm, rfl, ⟨_, SqL.of hlm⟩, lc_list (K := K) (xs := mo.map vN) (fun k acc H' => H' = H9 ∧ acc = ((mo.take k).map (lessC c)).map vN) (by rw [lpm2]; omega) ⟨rfl, rfl⟩ (fun k acc H' hk h => ?_) (fun k u acc H' hu h => ?_) (fun acc H' h => ?_)⟩
    · obtain ⟨rfl, rfl⟩ := h
      exact ⟨SqL.of hlm, by rw [List.length_map, List.length_map]; exact Nat.le_trans (List.length_take_le _ _) (Nat.le_refl _)⟩
    · obtain ⟨rfl, rfl⟩ := h
      rw [List.getElem?_map] at hu
      cases ep : mo[k]? with
      | none => rw [ep] at hu; cases hu
      | some p =>
        rw [ep] at hu
        obtain rfl := (Option.some.inj hu).symm
        refine ⟨rfl, _, rfl, _, rfl, _, rfl, p, 2 ^ c, rfl, rfl, p, p &&& 2 ^ c, rfl, rfl, Nat.and_le_left, rfl, ?_⟩
        rw [List.take_add_one, ep, List.map_append, List.map_append]
        rfl
    obtain ⟨rfl, rfl⟩ := h
    rw [lpm2, List.take_length]
    intro ll hll0
    have sA := Same.new (o := .lst ((mo.map (lessC c)).map vN)) hll0
    have hll : (upd H' ll (.lst ((mo.map (lessC c)).map vN))) ll = some (.lst ((mo.map (lessC c)).map vN)) := upd_same
    have nll : ll ≠ st := (stf_fresh S9 (But.refl _ _) hll0).2
    have SA := S9.same sA
    have hrpA := sA _ _ hrp9
    have hRsA := hRs9.same sA
    have hppA := sA _ _ hpp9
    have hlfA := sA _ _ hlf9
    have hlmA := sA _ _ hlm
    have TA := T9.same sA
    have UA := U9.same sA
    generalize upd H' ll (.lst ((mo.map (lessC c)).map vN)) = HA at hll SA hrpA hRsA hppA hlfA hlmA TA UA
    clear sA S9 hrp9 hpp9 hlf9 hRs9 T9 U9 hlm
    refine ⟨_, rfl, _, rfl, m, rfl, rfl, by omega, st, ns, k7, ((2 ^ m : Nat) : Int), rfl, SA, by omega, hlen, Int.ofNat_lt.mpr pw0, fun rB HB aB bB SB BB => ?_⟩
    obtain ⟨x, rfl, hx⟩ := nat_of (n := 2 ^ m) aB bB
    refine ⟨_, rfl, m, rfl, rfl, by omega, 2 ^ m, 1, rfl, rfl, pw0, _, rfl, 2 ^ m - 1, x, rfl, rfl, by omega, _, rfl, _, rfl, st, ns, k7 + 1, m, rfl, SB, by omega, hlen, m1, m7, fun y kC HC hy hkC SC BC => ?_⟩
    refine ⟨2 ^ m - 1 - x, y, rfl, rfl, ?_⟩
    dsimp only
    obtain ⟨fo, lo⟩ := other_full hx hy
    generalize 2 ^ m - 1 - x ||| y = z at fo lo
    have BAC := BB.trans BC
    have hrpC := BAC _ _ hrpA nrp
    have hppC := BAC _ _ hppA npp
    have hlfC := BAC _ _ hlfA nlf
    have hlmC := BAC _ _ hlmA nlm
    have hllC := BAC _ _ hll nll
    have hRsC : RulesAt HC m rs := fun r hr' => ⟨stf_tup SA BAC (hRsA r hr').1, (hRsA r hr').2⟩
    have TC := tabF SA TA BAC
    have UC := tabF SA UA BAC
    clear BAC BB BC SA hrpA hppA hlfA hlmA hll hRsA TA UA SB SC
    have p2 : 2 ≤ 2 ^ m := Nat.le_trans (by decide : 2 ≤ 2 ^ 1) (Nat.pow_le_pow_right (by decide) m1)
    refine ⟨TC, fun g c2 HD BD TD nD hlm2 hcm2 pins sI I1 => ⟨g, 1, rfl, ⟨by decide, ?_⟩, fun HE sE => ?_⟩⟩
    · have S : LScope (cxOf CX0 P w K mg base ["_law_script", "_law_state", "_law_many", "_law_rules_here", "_law_column", "_law_parts_here", "_law_fewer", "_law_more", "_law_lacking", "_law_one", "_law_other"] "law" (defScope sLaw) f (.ref cc) A outer s H E) false "" lamC := (lsc (o := false) (x0 := "") (sc := lamC) ["_law_script", "_law_state", "_law_many", "_law_rules_here", "_law_column", "_law_parts_here", "_law_fewer", "_law_more", "_law_lacking", "_law_one", "_law_other"] (defScope sLaw) rfl rfl (by decide +kernel) (fun _ _ => rfl) (fun _ => rfl))
      have hrpX := tab_but TC BD hrpC fun _ z => (nomatch z)
      have hRsX := hRsC.butT TC BD
      refine ⟨⟨_, _, _, _, _, _, hlm2⟩, fun A' outer' s' hr' e0 kp => ?_⟩
      refine lamM_code S (ClAt.of I1 rfl rfl (fun _ => rfl) kp) e0 hr' hlm2 hcm2 (fun _ _ => rfl) (pe_call GCTX ((hr'.mono (by decide : 5 ≤ 20)).deeper _) rfl mCT kCT bCT .nil (passM (E := fun C _ H' => Same HD H' ∧ ((1 = 1 ∧ C = .ref CCN) ∨ (1 = 2 ∧ C = .ref CTM))) fun _ _ z => z) (pa_cons (pv 2) (pa_cons (pv 3) (pa_cons (pe_op op_subN (pv 9) (pe_op op_andN (pv 9) (pv 4))) (pa_cons (pe_op op_subN (pv 10) (pe_op op_andN (pv 10) (pv 4))) pa_nil))))) ?_
      exact ⟨_, rfl, _, rfl, _, rfl, _, rfl, _, rfl, x, 2 ^ c, rfl, rfl, x, x &&& 2 ^ c, rfl, rfl, Nat.and_le_left, _, rfl, _, rfl, _, rfl, z, 2 ^ c, rfl, rfl, z, z &&& 2 ^ c, rfl, rfl, Nat.and_le_left, m, lessC c x, lessC c z, rp, rfl, m7, cut_lacks hc hx lo, Same.refl _, .inl ⟨rfl, rfl⟩⟩
    have hrpE := sE _ _ (tab_but TC BD hrpC fun _ z => (nomatch z))
    have hppE := sE _ _ (tab_but TC BD hppC fun _ z => (nomatch z))
    have hlfE := sE _ _ (tab_but TC BD hlfC fun _ z => (nomatch z))
    have hlmE := sE _ _ (tab_but TC BD hlmC fun _ z => (nomatch z))
    have hllE := sE _ _ (tab_but TC BD hllC fun _ z => (nomatch z))
    have hRsE := (hRsC.butT TC BD).same sE
    have UE := (tab2_but UC BD (Ne.symm nPP) TC).same sE
    have TE := TD.same sE
    clear I1 sI pins hlm2 hcm2
    refine ⟨rfl, _, rfl, iteNS rfl ?_⟩
    refine ⟨_, rfl, _, rfl, _, rfl, m, 1, rp, lf, rs, ps.map (lessC c), rfl, m1, m7, by decide, hrpE, hRsE, lrs, hlfE, (by rw [List.length_map]; omega), (fun p hp => by obtain ⟨p', h1, rfl⟩ := List.mem_map.mp hp; exact less_lt (hps p' h1)), .inl (.inr ⟨rfl, by rw [List.length_map]; exact l10, less_or hc ps hps⟩), UE, fun HF BF UF => ?_⟩
    have TF := tab2_but TE BF nPP UE
    have hrpF := tab_but UE BF hrpE fun _ z => (nomatch z)
    have hppF := tab_but UE BF hppE fun _ z => (nomatch z)
    have hlfF := tab_but UE BF hlfE fun _ z => (nomatch z)
    have hlmF := tab_but UE BF hlmE fun _ z => (nomatch z)
    have hllF := tab_but UE BF hllE fun _ z => (nomatch z)
    have hRsF := hRsE.butT UE BF
    refine ⟨_, rfl, iteF ?_⟩
    refine ⟨_, rfl, _, rfl, (by show 0 ≤ sizeLine; exact Nat.zero_le _), fun le hle0 => ?_⟩
    have sG := Same.new (o := .lst []) hle0
    have hleG : (upd HF le (.lst [])) le = some (.lst (([] : List Nat).map vN)) := upd_same
    have hrpG := sG _ _ hrpF
    have hppG := sG _ _ hppF
    have hlfG := sG _ _ hlfF
    have hlmG := sG _ _ hlmF
    have hllG := sG _ _ hllF
    have hRsG := hRsF.same sG
    have TG := TF.same sG
    have UG := UF.same sG
    generalize upd HF le (.lst []) = HG at sG hleG hrpG hppG hlfG hlmG hllG hRsG TG UG
    refine ⟨m, 1, rp, le, rs, ([] : List Nat), rfl, m1, m7, by decide, hrpG, hRsG, lrs, hleG, Nat.zero_le _, (fun p hp => by cases hp), .inl (.inr ⟨rfl, Nat.zero_le _, by show 0 < 2 ^ m - 1; omega⟩), UG, fun HI BI UI => ?_⟩
    have TI := tab2_but TG BI nPP UG
    have hrpI := tab_but UG BI hrpG fun _ z => (nomatch z)
    have hppI := tab_but UG BI hppG fun _ z => (nomatch z)
    have hlfI := tab_but UG BI hlfG fun _ z => (nomatch z)
    have hlmI := tab_but UG BI hlmG fun _ z => (nomatch z)
    have hllI := tab_but UG BI hllG fun _ z => (nomatch z)
    have hRsI := hRsG.butT UG BI
    refine ⟨_, rfl, iteF ?_⟩
    refine ⟨_, rfl, _, rfl, _, rfl, m, 2, rp, lm, rs, mo, rfl, m1, m7, by decide, hrpI, hRsI, lrs, hlmI, (by omega), hall, .inl (.inl ⟨rfl, by omega⟩), UI, fun HJ BJ UJ => ?_⟩
    have TJ := tab2_but TI BJ nPP UI
    have hrpJ := tab_but UI BJ hrpI fun _ z => (nomatch z)
    have hppJ := tab_but UI BJ hppI fun _ z => (nomatch z)
    have hlfJ := tab_but UI BJ hlfI fun _ z => (nomatch z)
    have hlmJ := tab_but UI BJ hlmI fun _ z => (nomatch z)
    have hllJ := tab_but UI BJ hllI fun _ z => (nomatch z)
    have hRsJ := hRsI.butT UI BJ
    refine ⟨_, rfl, iteF ?_⟩
    refine ⟨_, rfl, _, rfl, _, rfl, m, 2, rp, ll, rs, mo.map (lessC c), rfl, m1, m7, by decide, hrpJ, hRsJ, lrs, hllJ, (by rw [List.length_map]; omega), (fun p hp => by obtain ⟨p', h1, rfl⟩ := List.mem_map.mp hp; exact less_lt (hall p' h1)), .inl (.inl ⟨rfl, by rw [List.length_map]; omega⟩), UJ, fun HL BL UL => ?_⟩
    have TL := tab2_but TJ BL nPP UJ
    have hrpL := tab_but UJ BL hrpJ fun _ z => (nomatch z)
    have hppL := tab_but UJ BL hppJ fun _ z => (nomatch z)
    have hlfL := tab_but UJ BL hlfJ fun _ z => (nomatch z)
    have hlmL := tab_but UJ BL hlmJ fun _ z => (nomatch z)
    have hllL := tab_but UJ BL hllJ fun _ z => (nomatch z)
    have hRsL := hRsJ.butT UJ BL
    refine ⟨_, rfl, iteF ?_⟩
    refine ⟨TL, fun g c2 HM BM TM nM hlm2 hcm2 pins sI I1 => ⟨g, 0, rfl, ⟨by decide, ?_⟩, fun HN sN => ?_⟩⟩
    · have S : LScope (cxOf CX0 P w K mg base ["_law_script", "_law_state", "_law_many", "_law_rules_here", "_law_column", "_law_parts_here", "_law_fewer", "_law_more", "_law_lacking", "_law_one", "_law_other"] "law" (defScope sLaw) f (.ref cc) A outer s H E) false "" lamG := (lsc (o := false) (x0 := "") (sc := lamG) ["_law_script", "_law_state", "_law_many", "_law_rules_here", "_law_column", "_law_parts_here", "_law_fewer", "_law_more", "_law_lacking", "_law_one", "_law_other"] (defScope sLaw) rfl rfl (by decide +kernel) (fun _ _ => rfl) (fun _ => rfl))
      have hrpX := tab_but TL BM hrpL fun _ z => (nomatch z)
      have hRsX := hRsL.butT TL BM
      refine ⟨⟨_, _, _, _, _, _, hlm2⟩, fun A' outer' s' hr' e0 kp => ?_⟩
      refine lamM_code S (ClAt.of I1 rfl rfl (fun _ => rfl) kp) e0 hr' hlm2 hcm2 (fun _ _ => rfl) (pe_call GCT ((hr'.mono (by decide : 5 ≤ 20)).deeper _) rfl mCT kCT bCT .nil pass0 (pa_cons (pv 2) (pa_cons (pv 3) (pa_cons (pv 9) (pa_cons (pv 10) pa_nil))))) ?_
      exact ⟨_, rfl, _, rfl, _, rfl, _, rfl, m, x, z, rp, rs, rfl, m7, hx, lo, fo, SqL.of hrpX, hRsX, by omega, fun _ _ _ _ sx _ _ => ⟨rfl, sx⟩⟩
    have hrpN := sN _ _ (tab_but TL BM hrpL fun _ z => (nomatch z))
    have hppN := sN _ _ (tab_but TL BM hppL fun _ z => (nomatch z))
    have hlfN := sN _ _ (tab_but TL BM hlfL fun _ z => (nomatch z))
    have hlmN := sN _ _ (tab_but TL BM hlmL fun _ z => (nomatch z))
    have hllN := sN _ _ (tab_but TL BM hllL fun _ z => (nomatch z))
    have hRsN := (hRsL.butT TL BM).same sN
    have UN := (tab2_but UL BM (Ne.symm nPP) TL).same sN
    have TN := TM.same sN
    clear I1 sI pins hlm2 hcm2
    refine ⟨rfl, _, rfl, iteNS rfl ?_⟩
    refine ⟨_, rfl, _, rfl, _, rfl, m, 0, rp, pp, rs, ps, rfl, m1, m7, by decide, hrpN, hRsN, lrs, hppN, (by omega), hps, .inr ⟨rfl, l1, l10, full⟩, UN, fun HO BO UO => ?_⟩
    have TO := tab2_but TN BO nPP UN
    have hrpO := tab_but UN BO hrpN fun _ z => (nomatch z)
    have hppO := tab_but UN BO hppN fun _ z => (nomatch z)
    have hlfO := tab_but UN BO hlfN fun _ z => (nomatch z)
    have hlmO := tab_but UN BO hlmN fun _ z => (nomatch z)
    have hllO := tab_but UN BO hllN fun _ z => (nomatch z)
    have hRsO := hRsN.butT UN BO
    refine ⟨_, rfl, iteT ?_⟩
    refine ⟨_, rfl, _, rfl, _, rfl, (10 : Int), rfl, lm, _, rfl, SqL.of hlmO, fun lt hlt0 => ?_⟩
    rw [show (some (10 : Int)) = some (((10 : Nat) : Int)) from rfl, cut_take, ← List.map_take]
    have sQ := Same.new (o := .lst ((mo.take 10).map vN)) hlt0
    refine ⟨m, 0, rp, lt, rs, mo.take 10, rfl, m1, m7, by decide, sQ _ _ hrpO, hRsO.same sQ, lrs, upd_same, by rw [List.length_take]; omega, (fun p hp => hall p (List.mem_of_mem_take hp)), .inr ⟨rfl, by rw [List.length_take]; omega, by rw [List.length_take]; omega, by rw [← emo]; exact full_more ps xs (by rw [emo]; exact hall) l10 full⟩, UO.same sQ, fun HR BR UR => q _⟩
end
end Own

namespace Own
open PySem L2
theorem SqF.ofT {K : PySem.W.Frag} {H : Hp} {a : Addr} {ns : List Int} {ts : List Addr} (hO : OnlyT ts H) (h : SqL K H a (ns.map V.int)) : SqF K H a ns := by
  rcases h with (h | ⟨o, h⟩) | h
  · by_cases z : a ∈ ts
    · rw [hO.1 a z] at h; cases h
    · rcases hO.2 a z with z | ⟨o, xs, z⟩
      · rw [h] at z; cases z
      · rw [h] at z; cases z
  · exact .inl ⟨o, h⟩
  · exact .inr h
theorem code_any {K : PySem.W.Frag} {P : Addr} (h : (K.any fun p => PySem.W.codeHdIn K p.1 P) = true) : ∃ c, PySem.W.codeHdIn K c P = true := by
  obtain ⟨p, _, e⟩ := List.any_eq_true.mp h
  exact ⟨p.1, e⟩
/-! what the top has written, and the law's own head -/
theorem all_mk {l : PySem.W.OpenLaw} {w : World} {K : PySem.W.Frag} {h : Heap} {mg : Str → Option Value} {fa fH fC fAL fIW fL fM fN fCK fBT fUL fFP fFS fWN fMD fFL fSF fCU fI fUD fBG fFU fUN fFT fCT fT fTH fRU fPA fHE fPD fQ : Addr} (X : K.In h) (G : h.Ns mainGlobals mg) (hfa : mg "law" = some (.ref fa))
    {odH anH odC anC odAL anAL odIW anIW odL anL odM anM odN anN odCK anCK odBT anBT odUL anUL odFP anFP odFS anFS odWN anWN odMD anMD odFL anFL odSF anSF odCU anCU odI anI odUD anUD odBG anBG odFU anFU odUN anUN odFT anFT odCT anCT odT anT odTH anTH odRU anRU odPA anPA odHE anHE odPD anPD odQ anQ : Option Addr} {slH slC slAL slIW slL slM slN slCK slBT slUL slFP slFS slWN slMD slFL slSF slCU slI slUD slBG slFU slUN slFT slCT slT slTH slRU slPA slHE slPD slQ : Array (Option Value)} {ocH kVH dcH pmH cdH ctH ocC kVC dcC pmC cdC ctC ocAL kVAL dcAL pmAL cdAL ctAL ocIW kVIW dcIW pmIW cdIW ctIW ocL kVL dcL pmL cdL ctL ocM kVM dcM pmM cdM ctM ocN kVN dcN pmN cdN ctN ocCK kVCK dcCK pmCK cdCK ctCK ocBT kVBT dcBT pmBT cdBT ctBT ocUL kVUL dcUL pmUL cdUL ctUL ocFP kVFP dcFP pmFP cdFP ctFP ocFS kVFS dcFS pmFS cdFS ctFS ocWN kVWN dcWN pmWN cdWN ctWN ocMD kVMD dcMD pmMD cdMD ctMD ocFL kVFL dcFL pmFL cdFL ctFL ocSF kVSF dcSF pmSF cdSF ctSF ocCU kVCU dcCU pmCU cdCU ctCU ocI kVI dcI pmI cdI ctI ocUD kVUD dcUD pmUD cdUD ctUD ocBG kVBG dcBG pmBG cdBG ctBG ocFU kVFU dcFU pmFU cdFU ctFU ocUN kVUN dcUN pmUN cdUN ctUN ocFT kVFT dcFT pmFT cdFT ctFT ocCT kVCT dcCT pmCT cdCT ctCT ocT kVT dcT pmT cdT ctT ocTH kVTH dcTH pmTH cdTH ctTH ocRU kVRU dcRU pmRU cdRU ctRU ocPA kVPA dcPA pmPA cdPA ctPA ocHE kVHE dcHE pmHE cdHE ctHE ocPD kVPD dcPD pmPD cdPD ctPD ocQ kVQ dcQ pmQ cdQ ctQ : Value}
    (aH : PySem.W.nsIn K mainGlobals "has_column" = some (some (.ref fH))) (lH : K.lookup fH = some ⟨ocH, odH, .func (PySem.W.fnOf "has_column" "has_column" (defArgs sHas) (defBody sHas) (defScope sHas) .none kVH dcH pmH anH cdH ctH), slH⟩) (cH : PySem.W.codeIn K cdH "has_column" = true) (kH : PySem.W.keepIn K (.ref fH) = true)
    (aC : PySem.W.nsIn K mainGlobals "columns_of" = some (some (.ref fC))) (lC : K.lookup fC = some ⟨ocC, odC, .func (PySem.W.fnOf "columns_of" "columns_of" (defArgs sCols) (defBody sCols) (defScope sCols) .none kVC dcC pmC anC cdC ctC), slC⟩) (cC : PySem.W.codeIn K cdC "columns_of" = true) (kC : PySem.W.keepIn K (.ref fC) = true)
    (aAL : PySem.W.nsIn K mainGlobals "all_of" = some (some (.ref fAL))) (lAL : K.lookup fAL = some ⟨ocAL, odAL, .func (PySem.W.fnOf "all_of" "all_of" (defArgs sAll) (defBody sAll) (defScope sAll) .none kVAL dcAL pmAL anAL cdAL ctAL), slAL⟩) (cAL : PySem.W.codeIn K cdAL "all_of" = true) (kAL : PySem.W.keepIn K (.ref fAL) = true)
    (aIW : PySem.W.nsIn K mainGlobals "is_within" = some (some (.ref fIW))) (lIW : K.lookup fIW = some ⟨ocIW, odIW, .func (PySem.W.fnOf "is_within" "is_within" (defArgs sWithin) (defBody sWithin) (defScope sWithin) .none kVIW dcIW pmIW anIW cdIW ctIW), slIW⟩) (cIW : PySem.W.codeIn K cdIW "is_within" = true) (kIW : PySem.W.keepIn K (.ref fIW) = true)
    (aL : PySem.W.nsIn K mainGlobals "alike" = some (some (.ref fL))) (lL : K.lookup fL = some ⟨ocL, odL, .func (PySem.W.fnOf "alike" "alike" (defArgs sAlike) (defBody sAlike) (defScope sAlike) .none kVL dcL pmL anL cdL ctL), slL⟩) (cL : PySem.W.codeIn K cdL "alike" = true) (kL : PySem.W.keepIn K (.ref fL) = true)
    (aM : PySem.W.nsIn K mainGlobals "mixed" = some (some (.ref fM))) (lM : K.lookup fM = some ⟨ocM, odM, .func (PySem.W.fnOf "mixed" "mixed" (defArgs sMixed) (defBody sMixed) (defScope sMixed) .none kVM dcM pmM anM cdM ctM), slM⟩) (cM : PySem.W.codeIn K cdM "mixed" = true) (kM : PySem.W.keepIn K (.ref fM) = true)
    (aN : PySem.W.nsIn K mainGlobals "noughts" = some (some (.ref fN))) (lN : K.lookup fN = some ⟨ocN, odN, .func (PySem.W.fnOf "noughts" "noughts" (defArgs sNoughts) (defBody sNoughts) (defScope sNoughts) .none kVN dcN pmN anN cdN ctN), slN⟩) (cN : PySem.W.codeIn K cdN "noughts" = true) (kN : PySem.W.keepIn K (.ref fN) = true)
    (aCK : PySem.W.nsIn K mainGlobals "check_parts" = some (some (.ref fCK))) (lCK : K.lookup fCK = some ⟨ocCK, odCK, .func (PySem.W.fnOf "check_parts" "check_parts" (defArgs sCheck) (defBody sCheck) (defScope sCheck) .none kVCK dcCK pmCK anCK cdCK ctCK), slCK⟩) (cCK : PySem.W.codeIn K cdCK "check_parts" = true) (kCK : PySem.W.keepIn K (.ref fCK) = true)
    (aBT : PySem.W.nsIn K mainGlobals "begun_table" = some (some (.ref fBT))) (lBT : K.lookup fBT = some ⟨ocBT, odBT, .func (PySem.W.fnOf "begun_table" "begun_table" (defArgs sBegunT) (defBody sBegunT) (defScope sBegunT) .none kVBT dcBT pmBT anBT cdBT ctBT), slBT⟩) (cBT : PySem.W.codeIn K cdBT "begun_table" = true) (kBT : PySem.W.keepIn K (.ref fBT) = true)
    (aUL : PySem.W.nsIn K mainGlobals "first_unlike" = some (some (.ref fUL))) (lUL : K.lookup fUL = some ⟨ocUL, odUL, .func (PySem.W.fnOf "first_unlike" "first_unlike" (defArgs sUnlike) (defBody sUnlike) (defScope sUnlike) .none kVUL dcUL pmUL anUL cdUL ctUL), slUL⟩) (cUL : PySem.W.codeIn K cdUL "first_unlike" = true) (kUL : PySem.W.keepIn K (.ref fUL) = true)
    (aFP : PySem.W.nsIn K mainGlobals "first_place" = some (some (.ref fFP))) (lFP : K.lookup fFP = some ⟨ocFP, odFP, .func (PySem.W.fnOf "first_place" "first_place" (defArgs sPlace) (defBody sPlace) (defScope sPlace) .none kVFP dcFP pmFP anFP cdFP ctFP), slFP⟩) (cFP : PySem.W.codeIn K cdFP "first_place" = true) (kFP : PySem.W.keepIn K (.ref fFP) = true)
    (aFS : PySem.W.nsIn K mainGlobals "first_step" = some (some (.ref fFS))) (lFS : K.lookup fFS = some ⟨ocFS, odFS, .func (PySem.W.fnOf "first_step" "first_step" (defArgs sStep) (defBody sStep) (defScope sStep) .none kVFS dcFS pmFS anFS cdFS ctFS), slFS⟩) (cFS : PySem.W.codeIn K cdFS "first_step" = true) (kFS : PySem.W.keepIn K (.ref fFS) = true)
    (aWN : PySem.W.nsIn K mainGlobals "with_number" = some (some (.ref fWN))) (lWN : K.lookup fWN = some ⟨ocWN, odWN, .func (PySem.W.fnOf "with_number" "with_number" (defArgs sWithN) (defBody sWithN) (defScope sWithN) .none kVWN dcWN pmWN anWN cdWN ctWN), slWN⟩) (cWN : PySem.W.codeIn K cdWN "with_number" = true) (kWN : PySem.W.keepIn K (.ref fWN) = true)
    (aMD : PySem.W.nsIn K mainGlobals "made_alike" = some (some (.ref fMD))) (lMD : K.lookup fMD = some ⟨ocMD, odMD, .func (PySem.W.fnOf "made_alike" "made_alike" (defArgs sMade) (defBody sMade) (defScope sMade) .none kVMD dcMD pmMD anMD cdMD ctMD), slMD⟩) (cMD : PySem.W.codeIn K cdMD "made_alike" = true) (kMD : PySem.W.keepIn K (.ref fMD) = true)
    (aFL : PySem.W.nsIn K mainGlobals "filled" = some (some (.ref fFL))) (lFL : K.lookup fFL = some ⟨ocFL, odFL, .func (PySem.W.fnOf "filled" "filled" (defArgs sFilled) (defBody sFilled) (defScope sFilled) .none kVFL dcFL pmFL anFL cdFL ctFL), slFL⟩) (cFL : PySem.W.codeIn K cdFL "filled" = true) (kFL : PySem.W.keepIn K (.ref fFL) = true)
    (aSF : PySem.W.nsIn K mainGlobals "is_safe" = some (some (.ref fSF))) (lSF : K.lookup fSF = some ⟨ocSF, odSF, .func (PySem.W.fnOf "is_safe" "is_safe" (defArgs sSafe) (defBody sSafe) (defScope sSafe) .none kVSF dcSF pmSF anSF cdSF ctSF), slSF⟩) (cSF : PySem.W.codeIn K cdSF "is_safe" = true) (kSF : PySem.W.keepIn K (.ref fSF) = true)
    (aCU : PySem.W.nsIn K mainGlobals "can_use" = some (some (.ref fCU))) (lCU : K.lookup fCU = some ⟨ocCU, odCU, .func (PySem.W.fnOf "can_use" "can_use" (defArgs sCanUse) (defBody sCanUse) (defScope sCanUse) .none kVCU dcCU pmCU anCU cdCU ctCU), slCU⟩) (cCU : PySem.W.codeIn K cdCU "can_use" = true) (kCU : PySem.W.keepIn K (.ref fCU) = true)
    (aI : PySem.W.nsIn K mainGlobals "listed" = some (some (.ref fI))) (lI : K.lookup fI = some ⟨ocI, odI, .func (PySem.W.fnOf "listed" "listed" (defArgs sListed) (defBody sListed) (defScope sListed) .none kVI dcI pmI anI cdI ctI), slI⟩) (cI : PySem.W.codeIn K cdI "listed" = true) (kI : PySem.W.keepIn K (.ref fI) = true)
    (aUD : PySem.W.nsIn K mainGlobals "used" = some (some (.ref fUD))) (lUD : K.lookup fUD = some ⟨ocUD, odUD, .func (PySem.W.fnOf "used" "used" (defArgs sUsed) (defBody sUsed) (defScope sUsed) .none kVUD dcUD pmUD anUD cdUD ctUD), slUD⟩) (cUD : PySem.W.codeIn K cdUD "used" = true) (kUD : PySem.W.keepIn K (.ref fUD) = true)
    (aBG : PySem.W.nsIn K mainGlobals "begun" = some (some (.ref fBG))) (lBG : K.lookup fBG = some ⟨ocBG, odBG, .func (PySem.W.fnOf "begun" "begun" (defArgs sBegun) (defBody sBegun) (defScope sBegun) .none kVBG dcBG pmBG anBG cdBG ctBG), slBG⟩) (cBG : PySem.W.codeIn K cdBG "begun" = true) (kBG : PySem.W.keepIn K (.ref fBG) = true)
    (aFU : PySem.W.nsIn K mainGlobals "first_use" = some (some (.ref fFU))) (lFU : K.lookup fFU = some ⟨ocFU, odFU, .func (PySem.W.fnOf "first_use" "first_use" (defArgs sFirst) (defBody sFirst) (defScope sFirst) .none kVFU dcFU pmFU anFU cdFU ctFU), slFU⟩) (cFU : PySem.W.codeIn K cdFU "first_use" = true) (kFU : PySem.W.keepIn K (.ref fFU) = true)
    (aUN : PySem.W.nsIn K mainGlobals "unfolded" = some (some (.ref fUN))) (lUN : K.lookup fUN = some ⟨ocUN, odUN, .func (PySem.W.fnOf "unfolded" "unfolded" (defArgs sUnf) (defBody sUnf) (defScope sUnf) .none kVUN dcUN pmUN anUN cdUN ctUN), slUN⟩) (cUN : PySem.W.codeIn K cdUN "unfolded" = true) (kUN : PySem.W.keepIn K (.ref fUN) = true)
    (aFT : PySem.W.nsIn K mainGlobals "first_torn" = some (some (.ref fFT))) (lFT : K.lookup fFT = some ⟨ocFT, odFT, .func (PySem.W.fnOf "first_torn" "first_torn" (defArgs sTorn) (defBody sTorn) (defScope sTorn) .none kVFT dcFT pmFT anFT cdFT ctFT), slFT⟩) (cFT : PySem.W.codeIn K cdFT "first_torn" = true) (kFT : PySem.W.keepIn K (.ref fFT) = true)
    (aCT : PySem.W.nsIn K mainGlobals "cut_in_two" = some (some (.ref fCT))) (lCT : K.lookup fCT = some ⟨ocCT, odCT, .func (PySem.W.fnOf "cut_in_two" "cut_in_two" (defArgs sCutIn) (defBody sCutIn) (defScope sCutIn) .none kVCT dcCT pmCT anCT cdCT ctCT), slCT⟩) (cCT : PySem.W.codeIn K cdCT "cut_in_two" = true) (kCT : PySem.W.keepIn K (.ref fCT) = true)
    (aT : PySem.W.nsIn K mainGlobals "_law_take" = some (some (.ref fT))) (lT : K.lookup fT = some ⟨ocT, odT, .func (PySem.W.fnOf "_law_take" "_law_take" (defArgs sTake) (defBody sTake) (defScope sTake) .none kVT dcT pmT anT cdT ctT), slT⟩) (cT : PySem.W.codeIn K cdT "_law_take" = true) (kT : PySem.W.keepIn K (.ref fT) = true)
    (aTH : PySem.W.nsIn K mainGlobals "_law_thin" = some (some (.ref fTH))) (lTH : K.lookup fTH = some ⟨ocTH, odTH, .func (PySem.W.fnOf "_law_thin" "_law_thin" (defArgs sThin) (defBody sThin) (defScope sThin) .none kVTH dcTH pmTH anTH cdTH ctTH), slTH⟩) (cTH : PySem.W.codeIn K cdTH "_law_thin" = true) (kTH : PySem.W.keepIn K (.ref fTH) = true)
    (aRU : PySem.W.nsIn K mainGlobals "_law_rules" = some (some (.ref fRU))) (lRU : K.lookup fRU = some ⟨ocRU, odRU, .func (PySem.W.fnOf "_law_rules" "_law_rules" (defArgs sTRules) (defBody sTRules) (defScope sTRules) .none kVRU dcRU pmRU anRU cdRU ctRU), slRU⟩) (cRU : PySem.W.codeIn K cdRU "_law_rules" = true) (kRU : PySem.W.keepIn K (.ref fRU) = true)
    (aPA : PySem.W.nsIn K mainGlobals "_law_parts" = some (some (.ref fPA))) (lPA : K.lookup fPA = some ⟨ocPA, odPA, .func (PySem.W.fnOf "_law_parts" "_law_parts" (defArgs sParts53) (defBody sParts53) (defScope sParts53) .none kVPA dcPA pmPA anPA cdPA ctPA), slPA⟩) (cPA : PySem.W.codeIn K cdPA "_law_parts" = true) (kPA : PySem.W.keepIn K (.ref fPA) = true)
    (aHE : PySem.W.nsIn K mainGlobals "_law_heard" = some (some (.ref fHE))) (lHE : K.lookup fHE = some ⟨ocHE, odHE, .func (PySem.W.fnOf "_law_heard" "_law_heard" (defArgs sHeard) (defBody sHeard) (defScope sHeard) .none kVHE dcHE pmHE anHE cdHE ctHE), slHE⟩) (cHE : PySem.W.codeIn K cdHE "_law_heard" = true) (kHE : PySem.W.keepIn K (.ref fHE) = true)
    (aPD : PySem.W.nsIn K mainGlobals "_law_parted" = some (some (.ref fPD))) (lPD : K.lookup fPD = some ⟨ocPD, odPD, .func (PySem.W.fnOf "_law_parted" "_law_parted" (defArgs sParted) (defBody sParted) (defScope sParted) .none kVPD dcPD pmPD anPD cdPD ctPD), slPD⟩) (cPD : PySem.W.codeIn K cdPD "_law_parted" = true) (kPD : PySem.W.keepIn K (.ref fPD) = true)
    (aQ : PySem.W.nsIn K mainGlobals "law" = some (some (.ref fQ))) (lQ : K.lookup fQ = some ⟨ocQ, odQ, .func (PySem.W.fnOf "law" "law" (defArgs sLaw) (defBody sLaw) (defScope sLaw) .none kVQ dcQ pmQ anQ cdQ ctQ), slQ⟩) (cQ : PySem.W.codeIn K cdQ "law" = true) (kQ : PySem.W.keepIn K (.ref fQ) = true)
    {tkMP : Tok} (aMP : PySem.W.nsIn K mainGlobals "MOST_PARTS" = some (some (.int 10 tkMP)))
    {CCN CTM CRW CST CTX CZE : Addr} {ccP PP ccQ PQ : Addr} (aCN : PySem.W.nsIn K mainGlobals "NoCut" = some (some (.ref CCN))) (aTM : PySem.W.nsIn K mainGlobals "TooMany" = some (some (.ref CTM))) (aRW : PySem.W.nsIn K mainGlobals "NoRow" = some (some (.ref CRW))) (aST : PySem.W.nsIn K mainGlobals "NoSet" = some (some (.ref CST))) (aTX : PySem.W.nsIn K mainGlobals "NoText" = some (some (.ref CTX))) (aZE : PySem.W.nsIn K mainGlobals "SplitError" = some (some (.ref CZE))) (eCN : PySem.W.excIn K CCN [.type "ValueError", .type "Exception", .type "BaseException", .type "object"] "ValueError.__new__" = true) (pCN : PySem.W.findIn K (.ref CCN) "__getattribute__" = some (some (.builtin "BaseException.__getattribute__"))) (nCN : PySem.W.findIn K (.ref CCN) "__getattr__" = some none) (sCN : PySem.W.subIn K (.ref CCN) (.type "BaseException") = some true) (hCN : PySem.W.hasDictIn K CCN = true) (fCN : PySem.W.findIn K (.ref CCN) "__class__" = some (some (.builtin "object.__class__"))) (gCN : PySem.W.specialIn K (.builtin "object.__class__") "__get__" = some (some (.builtin "getset_descriptor.__get__"))) (tCN : PySem.W.takesIn K (.builtin "object.__class__") = some true) (rCN : PySem.W.mroIn K CCN (.type "object") = some true) (xCN : PySem.W.exmOne K (.ref CCN) (.ref CZE) = some true) (vCN : PySem.W.kitOne K (.ref CCN) (.type "ValueError") = some true) (oCNCN : PySem.W.kitOne K (.ref CCN) (.ref CCN) = some true) (oCNTM : PySem.W.kitOne K (.ref CCN) (.ref CTM) = some false) (oCNRW : PySem.W.kitOne K (.ref CCN) (.ref CRW) = some false) (oCNST : PySem.W.kitOne K (.ref CCN) (.ref CST) = some false) (oCNTX : PySem.W.kitOne K (.ref CCN) (.ref CTX) = some false) (eTM : PySem.W.excIn K CTM [.type "ValueError", .type "Exception", .type "BaseException", .type "object"] "ValueError.__new__" = true) (pTM : PySem.W.findIn K (.ref CTM) "__getattribute__" = some (some (.builtin "BaseException.__getattribute__"))) (nTM : PySem.W.findIn K (.ref CTM) "__getattr__" = some none) (sTM : PySem.W.subIn K (.ref CTM) (.type "BaseException") = some true) (hTM : PySem.W.hasDictIn K CTM = true) (fTM : PySem.W.findIn K (.ref CTM) "__class__" = some (some (.builtin "object.__class__"))) (gTM : PySem.W.specialIn K (.builtin "object.__class__") "__get__" = some (some (.builtin "getset_descriptor.__get__"))) (tTM : PySem.W.takesIn K (.builtin "object.__class__") = some true) (rTM : PySem.W.mroIn K CTM (.type "object") = some true) (xTM : PySem.W.exmOne K (.ref CTM) (.ref CZE) = some true) (vTM : PySem.W.kitOne K (.ref CTM) (.type "ValueError") = some true) (oTMCN : PySem.W.kitOne K (.ref CTM) (.ref CCN) = some false) (oTMTM : PySem.W.kitOne K (.ref CTM) (.ref CTM) = some true) (oTMRW : PySem.W.kitOne K (.ref CTM) (.ref CRW) = some false) (oTMST : PySem.W.kitOne K (.ref CTM) (.ref CST) = some false) (oTMTX : PySem.W.kitOne K (.ref CTM) (.ref CTX) = some false) (nPP : PQ ≠ PP) (gPD : cdPD = .ref ccP) (hPD : PySem.W.codeHdIn K ccP PP = true) (gQ : cdQ = .ref ccQ) (hQ : PySem.W.codeHdIn K ccQ PQ = true)
    (ylen : PySem.W.nsIn K mainGlobals "len" = some none) (yrange : PySem.W.nsIn K mainGlobals "range" = some none) (yenumerate : PySem.W.nsIn K mainGlobals "enumerate" = some none) (ylist : PySem.W.nsIn K mainGlobals "list" = some none) (yisinstance : PySem.W.nsIn K mainGlobals "isinstance" = some none) (ytuple : PySem.W.nsIn K mainGlobals "tuple" = some none) (yall : PySem.W.nsIn K mainGlobals "all" = some none) (ymin : PySem.W.nsIn K mainGlobals "min" = some none) (ymax : PySem.W.nsIn K mainGlobals "max" = some none) (yValueError : PySem.W.nsIn K mainGlobals "ValueError" = some none) :
    ∃ fd : FuncData, (∀ (s : Shared) (v : Value), BindsTo s fd ⟨[v], []⟩ [("_law_script", v)]) ∧ ∀ base : Heap, K.In base → base.Ns mainGlobals mg → BMod mg base → FnOk l.prog w K mg base CX0 23 fa fd ["_law_script"] (spLawT K [PP, PQ]) := by
  have e := hfa.symm.trans (PySem.W.mg_of X G aQ)
  cases e
  have FH := fun_mk (st := sHas) lH cH kH
  have mH := PySem.W.mg_of X G aH
  have bH := FH.binds (ps := ["some", "column"]) fun _ _ _ _ _ _ us hl => match us, hl with | [_, _], _ => rfl
  have FC := fun_mk (st := sCols) lC cC kC
  have mC := PySem.W.mg_of X G aC
  have bC := FC.binds (ps := ["some"]) fun _ _ _ _ _ _ us hl => match us, hl with | [_], _ => rfl
  have FAL := fun_mk (st := sAll) lAL cAL kAL
  have mAL := PySem.W.mg_of X G aAL
  have bAL := FAL.binds (ps := ["many"]) fun _ _ _ _ _ _ us hl => match us, hl with | [_], _ => rfl
  have FIW := fun_mk (st := sWithin) lIW cIW kIW
  have mIW := PySem.W.mg_of X G aIW
  have bIW := FIW.binds (ps := ["one", "other"]) fun _ _ _ _ _ _ us hl => match us, hl with | [_, _], _ => rfl
  have FL := fun_mk (st := sAlike) lL cL kL
  have mL := PySem.W.mg_of X G aL
  have bL := FL.binds (ps := ["one", "other", "some"]) fun _ _ _ _ _ _ us hl => match us, hl with | [_, _, _], _ => rfl
  have FM := fun_mk (st := sMixed) lM cM kM
  have mM := PySem.W.mg_of X G aM
  have bM := FM.binds (ps := ["one", "other", "some"]) fun _ _ _ _ _ _ us hl => match us, hl with | [_, _, _], _ => rfl
  have FN := fun_mk (st := sNoughts) lN cN kN
  have mN := PySem.W.mg_of X G aN
  have bN := FN.binds (ps := ["many"]) fun _ _ _ _ _ _ us hl => match us, hl with | [_], _ => rfl
  have FCK := fun_mk (st := sCheck) lCK cCK kCK
  have mCK := PySem.W.mg_of X G aCK
  have bCK := FCK.binds (ps := ["many", "parts"]) fun _ _ _ _ _ _ us hl => match us, hl with | [_, _], _ => rfl
  have FBT := fun_mk (st := sBegunT) lBT cBT kBT
  have mBT := PySem.W.mg_of X G aBT
  have bBT := FBT.binds (ps := ["many", "parts"]) fun _ _ _ _ _ _ us hl => match us, hl with | [_, _], _ => rfl
  have FUL := fun_mk (st := sUnlike) lUL cUL kUL
  have mUL := PySem.W.mg_of X G aUL
  have bUL := FUL.binds (ps := ["one", "other", "some"]) fun _ _ _ _ _ _ us hl => match us, hl with | [_, _, _], _ => rfl
  have FFP := fun_mk (st := sPlace) lFP cFP kFP
  have mFP := PySem.W.mg_of X G aFP
  have bFP := FFP.binds (ps := ["rows", "rule"]) fun _ _ _ _ _ _ us hl => match us, hl with | [_, _], _ => rfl
  have FFS := fun_mk (st := sStep) lFS cFS kFS
  have mFS := PySem.W.mg_of X G aFS
  have bFS := FFS.binds (ps := ["rules", "rows"]) fun _ _ _ _ _ _ us hl => match us, hl with | [_, _], _ => rfl
  have FWN := fun_mk (st := sWithN) lWN cWN kWN
  have mWN := PySem.W.mg_of X G aWN
  have bWN := FWN.binds (ps := ["row", "column", "number"]) fun _ _ _ _ _ _ us hl => match us, hl with | [_, _, _], _ => rfl
  have FMD := fun_mk (st := sMade) lMD cMD kMD
  have mMD := PySem.W.mg_of X G aMD
  have bMD := FMD.binds (ps := ["rows", "first", "second", "column"]) fun _ _ _ _ _ _ us hl => match us, hl with | [_, _, _, _], _ => rfl
  have FFL := fun_mk (st := sFilled) lFL cFL kFL
  have mFL := PySem.W.mg_of X G aFL
  have bFL := FFL.binds (ps := ["many", "rules", "parts"]) fun _ _ _ _ _ _ us hl => match us, hl with | [_, _, _], _ => rfl
  have FSF := fun_mk (st := sSafe) lSF cSF kSF
  have mSF := PySem.W.mg_of X G aSF
  have bSF := FSF.binds (ps := ["many", "rules", "parts"]) fun _ _ _ _ _ _ us hl => match us, hl with | [_, _, _], _ => rfl
  have FCU := fun_mk (st := sCanUse) lCU cCU kCU
  have mCU := PySem.W.mg_of X G aCU
  have bCU := FCU.binds (ps := ["rule", "block"]) fun _ _ _ _ _ _ us hl => match us, hl with | [_, _], _ => rfl
  have FI := fun_mk (st := sListed) lI cI kI
  have mI := PySem.W.mg_of X G aI
  have bI := FI.binds (ps := ["block"]) fun _ _ _ _ _ _ us hl => match us, hl with | [_], _ => rfl
  have FUD := fun_mk (st := sUsed) lUD cUD kUD
  have mUD := PySem.W.mg_of X G aUD
  have bUD := FUD.binds (ps := ["rule", "fixed", "blocks", "at"]) fun _ _ _ _ _ _ us hl => match us, hl with | [_, _, _, _], _ => rfl
  have FBG := fun_mk (st := sBegun) lBG cBG kBG
  have mBG := PySem.W.mg_of X G aBG
  have bBG := FBG.binds (ps := ["many", "some"]) fun _ _ _ _ _ _ us hl => match us, hl with | [_, _], _ => rfl
  have FFU := fun_mk (st := sFirst) lFU cFU kFU
  have mFU := PySem.W.mg_of X G aFU
  have bFU := FFU.binds (ps := ["rules", "blocks"]) fun _ _ _ _ _ _ us hl => match us, hl with | [_, _], _ => rfl
  have FUN := fun_mk (st := sUnf) lUN cUN kUN
  have mUN := PySem.W.mg_of X G aUN
  have bUN := FUN.binds (ps := ["many", "rules", "some"]) fun _ _ _ _ _ _ us hl => match us, hl with | [_, _, _], _ => rfl
  have FFT := fun_mk (st := sTorn) lFT cFT kFT
  have mFT := PySem.W.mg_of X G aFT
  have bFT := FFT.binds (ps := ["blocks", "one", "other"]) fun _ _ _ _ _ _ us hl => match us, hl with | [_, _, _], _ => rfl
  have FCT := fun_mk (st := sCutIn) lCT cCT kCT
  have mCT := PySem.W.mg_of X G aCT
  have bCT := FCT.binds (ps := ["many", "rules", "one", "other"]) fun _ _ _ _ _ _ us hl => match us, hl with | [_, _, _, _], _ => rfl
  have FT := fun_mk (st := sTake) lT cT kT
  have mT := PySem.W.mg_of X G aT
  have bT := FT.binds (ps := ["_law_state", "_law_most"]) fun _ _ _ _ _ _ us hl => match us, hl with | [_, _], _ => rfl
  have FTH := fun_mk (st := sThin) lTH cTH kTH
  have mTH := PySem.W.mg_of X G aTH
  have bTH := FTH.binds (ps := ["_law_state", "_law_many"]) fun _ _ _ _ _ _ us hl => match us, hl with | [_, _], _ => rfl
  have FRU := fun_mk (st := sTRules) lRU cRU kRU
  have mRU := PySem.W.mg_of X G aRU
  have bRU := FRU.binds (ps := ["_law_state", "_law_many"]) fun _ _ _ _ _ _ us hl => match us, hl with | [_, _], _ => rfl
  have FPA := fun_mk (st := sParts53) lPA cPA kPA
  have mPA := PySem.W.mg_of X G aPA
  have bPA := FPA.binds (ps := ["_law_state", "_law_many", "_law_most"]) fun _ _ _ _ _ _ us hl => match us, hl with | [_, _, _], _ => rfl
  have FHE := fun_mk (st := sHeard) lHE cHE kHE
  have mHE := PySem.W.mg_of X G aHE
  have bHE := FHE.binds (ps := ["_law_ask"]) fun _ _ _ _ _ _ us hl => match us, hl with | [_], _ => rfl
  have FPD := fun_mk (st := sParted) lPD cPD kPD
  have mPD := PySem.W.mg_of X G aPD
  have bPD := FPD.binds (ps := ["_law_many", "_law_rules_here", "_law_parts_here", "_law_due"]) fun _ _ _ _ _ _ us hl => match us, hl with | [_, _, _, _], _ => rfl
  have FQ := fun_mk (st := sLaw) lQ cQ kQ
  have mQ := PySem.W.mg_of X G aQ
  have mMP := PySem.W.mg_of X G aMP
  have zlen := PySem.W.mg_none_of X G ylen
  have zrange := PySem.W.mg_none_of X G yrange
  have zenumerate := PySem.W.mg_none_of X G yenumerate
  have zlist := PySem.W.mg_none_of X G ylist
  have zisinstance := PySem.W.mg_none_of X G yisinstance
  have ztuple := PySem.W.mg_none_of X G ytuple
  have zall := PySem.W.mg_none_of X G yall
  have zmin := PySem.W.mg_none_of X G ymin
  have zmax := PySem.W.mg_none_of X G ymax
  have zValueError := PySem.W.mg_none_of X G yValueError
  refine ⟨PySem.W.fnOf "law" "law" (defArgs sLaw) (defBody sLaw) (defScope sLaw) .none kVQ dcQ pmQ anQ cdQ ctQ, fun s v => .of_eq rfl, fun base KB _ hbm => ?_⟩
  have mCN := PySem.W.mg_of X G aCN
  have mTM := PySem.W.mg_of X G aTM
  have mRW := PySem.W.mg_of X G aRW
  have mST := PySem.W.mg_of X G aST
  have mTX := PySem.W.mg_of X G aTX
  have mZE := PySem.W.mg_of X G aZE
  have OTM : Exc K "TooMany" CTM := ⟨aTM, eTM⟩
  have OCN : Exc K "NoCut" CCN := ⟨aCN, eCN⟩
  have iTM : ExcI K CTM := ⟨pTM, nTM, sTM, hTM, fTM, gTM, tTM, rTM⟩
  have iCN : ExcI K CCN := ⟨pCN, nCN, sCN, hCN, fCN, gCN, tCN, rCN⟩
  have GH := ok_has (P := l.prog) (w := w) (mg := mg) (base := base) FH
  have GC := ok_cols FC GH mH kH bH zrange
  have GAL := ok_all (P := l.prog) (w := w) (mg := mg) (base := base) FAL
  have GIW := ok_within (P := l.prog) (w := w) (mg := mg) (base := base) FIW
  have GL := ok_alike FL GC mC kC bC zall
  have GM := ok_mixed FM GH mH kH bH zrange zlen ztuple
  have GN := ok_noughts (P := l.prog) (w := w) (mg := mg) (base := base) FN
  have GCK := ok_check FCK GIW mIW kIW bIW GAL mAL kAL bAL mMP zlen
  have GCKX := ok_checkX FCK GIW mIW kIW bIW GAL mAL kAL bAL OTM OCN mMP zlen
  have GBT := ok_begunt FBT GM mM kM bM GN mN kN bN zenumerate
  have GUL := ok_unlike FUL GC mC kC bC
  have GFP := ok_place FFP GL mL kL bL GUL mUL kUL bUL zenumerate zrange zlen
  have GFS := ok_step FFS GFP mFP kFP bFP zenumerate
  have GWN := ok_withn (P := l.prog) (w := w) (mg := mg) (base := base) FWN
  have GMD := ok_made FMD GWN mWN kWN bWN zmin zmax
  have GFL := ok_filled FFL GCK mCK kCK bCK GBT mBT kBT bBT GFS mFS kFS bFS GMD mMD kMD bMD
  have GFLX := ok_filledX FFL GCKX mCK kCK bCK
  have GSF := ok_safe FSF GN mN kN bN GFL mFL kFL bFL
  have GSFX := ok_safeX FSF GN mN kN bN GFLX mFL kFL bFL
  have GCU := ok_canuse (P := l.prog) (w := w) (mg := mg) (base := base) FCU
  have GI := ok_listed (P := l.prog) (w := w) (mg := mg) (base := base) FI
  have GUD := ok_used FUD GI mI kI bI
  have GBG := ok_begun FBG GI mI kI bI GAL mAL kAL bAL
  have GFU := ok_first FFU GCU mCU kCU bCU zenumerate
  have GUN := ok_unf FUN GBG mBG kBG bBG GFU mFU kFU bFU GUD mUD kUD bUD
  have GFT := ok_torn FFT GIW mIW kIW bIW
  have GCT := ok_cutin FCT GIW mIW kIW bIW GAL mAL kAL bAL GUN mUN kUN bUN GFT mFT kFT bFT
  have GCTX := ok_cutX FCT GIW mIW kIW bIW GAL mAL kAL bAL OCN
  have GT := ok_take (P := l.prog) (w := w) (base := base) FT zlen
  have GTH := ok_thin FTH GT mT kT bT
  have GRU := ok_trules FRU GT mT kT bT GTH mTH kTH bTH zrange zlen
  have GPA := ok_parts53 FPA GT mT kT bT GTH mTH kTH bTH zrange zlen
  have GHE := ok_heard (P := l.prog) (w := w) (base := base) FHE mCN mTM mRW mST mTX mZE iCN xCN vCN oCNCN oCNTM oCNRW oCNST oCNTX iTM xTM vTM oTMCN oTMTM oTMRW oTMST oTMTX zisinstance ztuple zValueError
  have GPD := ok_parted FPD gPD (PySem.W.codeHd_of_K KB hPD) hbm GHE mHE kHE bHE GFL mFL kFL bFL GFLX GSF mSF kSF bSF GSFX zlist
  exact ok_law FQ gQ (PySem.W.codeHd_of_K KB hQ) hbm nPP GT mT kT bT GTH mTH kTH bTH GRU mRU kRU bRU GPA mPA kPA bPA GHE mHE kHE bHE GPD mPD kPD bPD GCT mCT kCT bCT GCTX zrange zlen
theorem walk {l : PySem.W.OpenLaw} {PP PQ : Addr} {q : Program} {loose : List Str} {XP : (Str → Option Value) → Heap → Prop} {YP : World → Heap → Prop} {d : DefRec} {K : Params → PySem.W.Frag} (hn : l.most = some 63) (hdf : d.params.defaults = [])
    (hY : ∀ (w : World) (h : Heap), YP w h → (K w.params).In h) (hT : ∀ (w : World) (h : Heap), YP w h → ∀ P ∈ [PP, PQ], h.get? P = some (PySem.W.tabObj #[])) (hC : ∀ (w : World), ∀ P ∈ [PP, PQ], ∃ c, PySem.W.codeHdIn (K w.params) c P = true) (hNo : ∀ w : World, PySem.W.noTabs (K w.params) = true)
    (F : ∀ (w : World) (mg : Str → Option Value) (fa : Addr) (h : Heap), (K w.params).In h → h.Ns mainGlobals mg → mg d.name = some (.ref fa) →
      ∃ fd : FuncData, (∀ (s : Shared) (u : Value), BindsTo s fd ⟨[u], []⟩ [("_law_script", u)]) ∧ ∀ base : Heap, (K w.params).In base → base.Ns mainGlobals mg → BMod mg base → FnOk l.prog w (K w.params) mg base CX0 23 fa fd ["_law_script"] (spLawT (K w.params) [PP, PQ])) :
    PySem.W.WalkO q loose XP YP l.row.toRowW d [] (fun f vs => PySem.call f vs) :=
  L2.walk_ofT (n := 63) (k := 23) (x := "_law_script") (CX := fun _ => CX0) (sp := fun w => spLawT (K w.params) [PP, PQ]) hn (by decide) hdf ⟨rfl, by decide, by decide⟩ hY hT hC hNo F (fun _ _ a ns hl hO hS => ⟨a, ns, rfl, SqF.ofT hO hS, hl, hO.1, fun _ => rfl⟩) fun _ _ _ _ _ z => z
end Own
/-! names laid ahead, so that the head makes no twins of heaps, trees and the whole text: its own evaluation is quick without them -/
noncomputable def PySem.W.Fast.tw4551028350555692790 : Unit := ()
noncomputable def PySem.W.Fast.tw220685874711126104 : Unit := ()
noncomputable def PySem.W.Fast.tw792521496304956978 : Unit := ()
noncomputable def PySem.W.Fast.tw6939254278568857975 : Unit := ()
noncomputable def PySem.W.Fast.tw1950886913120144157 : Unit := ()
noncomputable def PySem.W.Fast.tw15473709197866665011 : Unit := ()
noncomputable def PySem.W.Fast.tw13195420615990477443 : Unit := ()
noncomputable def PySem.W.Fast.tw11826078490558973727 : Unit := ()
noncomputable def PySem.W.Fast.tw7709490500038329670 : Unit := ()
open PySem PySem.W PyProof.Rows
set_option maxRecDepth 100000 in
set_option maxHeartbeats 0 in
theorem PySem.Challenge.cw_splithouse_k51_cuts_refused_holds : PySem.Challenge.rw_splithouse_k51_cuts_refused.Holds := by
  w_on; o_law; k_head; (case hw => w_witness2)
  k_fill
  refine Own.walk (l := PySem.Challenge.rw_splithouse_k51_cuts_refused) rfl rfl (fun w h Y => PySem.W.km_in_of Y) (fun w h Y => PySem.W.km_tabs_of Y) ?hct ?hnt ?F
  case hnt => exact fun w => by kernel_rfl
  case hct => intro w P hP; rcases List.mem_cons.mp hP with rfl | hP; exact Own.code_any (by kernel_rfl); rcases List.mem_cons.mp hP with rfl | hP; exact Own.code_any (by kernel_rfl); cases hP
  case F =>
    intro w mg fa h KX G hmg
    refine' Own.all_mk KX G hmg ?aH ?lH ?cH ?kH ?aC ?lC ?cC ?kC ?aAL ?lAL ?cAL ?kAL ?aIW ?lIW ?cIW ?kIW ?aL ?lL ?cL ?kL ?aM ?lM ?cM ?kM ?aN ?lN ?cN ?kN ?aCK ?lCK ?cCK ?kCK ?aBT ?lBT ?cBT ?kBT ?aUL ?lUL ?cUL ?kUL ?aFP ?lFP ?cFP ?kFP ?aFS ?lFS ?cFS ?kFS ?aWN ?lWN ?cWN ?kWN ?aMD ?lMD ?cMD ?kMD ?aFL ?lFL ?cFL ?kFL ?aSF ?lSF ?cSF ?kSF ?aCU ?lCU ?cCU ?kCU ?aI ?lI ?cI ?kI ?aUD ?lUD ?cUD ?kUD ?aBG ?lBG ?cBG ?kBG ?aFU ?lFU ?cFU ?kFU ?aUN ?lUN ?cUN ?kUN ?aFT ?lFT ?cFT ?kFT ?aCT ?lCT ?cCT ?kCT ?aT ?lT ?cT ?kT ?aTH ?lTH ?cTH ?kTH ?aRU ?lRU ?cRU ?kRU ?aPA ?lPA ?cPA ?kPA ?aHE ?lHE ?cHE ?kHE ?aPD ?lPD ?cPD ?kPD ?aQ ?lQ ?cQ ?kQ ?aMP ?aCN ?aTM ?aRW ?aST ?aTX ?aZE ?eCN ?pCN ?nCN ?sCN ?hCN ?fCN ?gCN ?tCN ?rCN ?xCN ?vCN ?oCNCN ?oCNTM ?oCNRW ?oCNST ?oCNTX ?eTM ?pTM ?nTM ?sTM ?hTM ?fTM ?gTM ?tTM ?rTM ?xTM ?vTM ?oTMCN ?oTMTM ?oTMRW ?oTMST ?oTMTX ?nPP ?gPD ?hPD ?gQ ?hQ ?ylen ?yrange ?yenumerate ?ylist ?yisinstance ?ytuple ?yall ?ymin ?ymax ?yValueError
    (case aH => k_is)
    (case lH => k_is)
    (case cH => k_is)
    (case kH => k_is)
    (case aC => k_is)
    (case lC => k_is)
    (case cC => k_is)
    (case kC => k_is)
    (case aAL => k_is)
    (case lAL => k_is)
    (case cAL => k_is)
    (case kAL => k_is)
    (case aIW => k_is)
    (case lIW => k_is)
    (case cIW => k_is)
    (case kIW => k_is)
    (case aL => k_is)
    (case lL => k_is)
    (case cL => k_is)
    (case kL => k_is)
    (case aM => k_is)
    (case lM => k_is)
    (case cM => k_is)
    (case kM => k_is)
    (case aN => k_is)
    (case lN => k_is)
    (case cN => k_is)
    (case kN => k_is)
    (case aCK => k_is)
    (case lCK => k_is)
    (case cCK => k_is)
    (case kCK => k_is)
    (case aBT => k_is)
    (case lBT => k_is)
    (case cBT => k_is)
    (case kBT => k_is)
    (case aUL => k_is)
    (case lUL => k_is)
    (case cUL => k_is)
    (case kUL => k_is)
    (case aFP => k_is)
    (case lFP => k_is)
    (case cFP => k_is)
    (case kFP => k_is)
    (case aFS => k_is)
    (case lFS => k_is)
    (case cFS => k_is)
    (case kFS => k_is)
    (case aWN => k_is)
    (case lWN => k_is)
    (case cWN => k_is)
    (case kWN => k_is)
    (case aMD => k_is)
    (case lMD => k_is)
    (case cMD => k_is)
    (case kMD => k_is)
    (case aFL => k_is)
    (case lFL => k_is)
    (case cFL => k_is)
    (case kFL => k_is)
    (case aSF => k_is)
    (case lSF => k_is)
    (case cSF => k_is)
    (case kSF => k_is)
    (case aCU => k_is)
    (case lCU => k_is)
    (case cCU => k_is)
    (case kCU => k_is)
    (case aI => k_is)
    (case lI => k_is)
    (case cI => k_is)
    (case kI => k_is)
    (case aUD => k_is)
    (case lUD => k_is)
    (case cUD => k_is)
    (case kUD => k_is)
    (case aBG => k_is)
    (case lBG => k_is)
    (case cBG => k_is)
    (case kBG => k_is)
    (case aFU => k_is)
    (case lFU => k_is)
    (case cFU => k_is)
    (case kFU => k_is)
    (case aUN => k_is)
    (case lUN => k_is)
    (case cUN => k_is)
    (case kUN => k_is)
    (case aFT => k_is)
    (case lFT => k_is)
    (case cFT => k_is)
    (case kFT => k_is)
    (case aCT => k_is)
    (case lCT => k_is)
    (case cCT => k_is)
    (case kCT => k_is)
    (case aT => k_is)
    (case lT => k_is)
    (case cT => k_is)
    (case kT => k_is)
    (case aTH => k_is)
    (case lTH => k_is)
    (case cTH => k_is)
    (case kTH => k_is)
    (case aRU => k_is)
    (case lRU => k_is)
    (case cRU => k_is)
    (case kRU => k_is)
    (case aPA => k_is)
    (case lPA => k_is)
    (case cPA => k_is)
    (case kPA => k_is)
    (case aHE => k_is)
    (case lHE => k_is)
    (case cHE => k_is)
    (case kHE => k_is)
    (case aPD => k_is)
    (case lPD => k_is)
    (case cPD => k_is)
    (case kPD => k_is)
    (case aQ => k_is)
    (case lQ => k_is)
    (case cQ => k_is)
    (case kQ => k_is)
    (case aMP => k_is)
    (case aCN => k_is)
    (case aTM => k_is)
    (case aRW => k_is)
    (case aST => k_is)
    (case aTX => k_is)
    (case aZE => k_is)
    (case eCN => k_exc)
    (case pCN => k_is)
    (case nCN => k_is)
    (case sCN => k_is)
    (case hCN => k_is)
    (case fCN => k_is)
    (case gCN => k_is)
    (case tCN => k_is)
    (case rCN => k_is)
    (case xCN => kts_exm)
    (case vCN => kit_is)
    (case oCNCN => kit_is)
    (case oCNTM => kit_is)
    (case oCNRW => kit_is)
    (case oCNST => kit_is)
    (case oCNTX => kit_is)
    (case eTM => k_exc)
    (case pTM => k_is)
    (case nTM => k_is)
    (case sTM => k_is)
    (case hTM => k_is)
    (case fTM => k_is)
    (case gTM => k_is)
    (case tTM => k_is)
    (case rTM => k_is)
    (case xTM => kts_exm)
    (case vTM => kit_is)
    (case oTMCN => kit_is)
    (case oTMTM => kit_is)
    (case oTMRW => kit_is)
    (case oTMST => kit_is)
    (case oTMTX => kit_is)
    (case nPP => decide)
    (case gPD => exact rfl)
    (case hPD => kernel_rfl)
    (case gQ => exact rfl)
    (case hQ => kernel_rfl)
    (case ylen => k_is)
    (case yrange => k_is)
    (case yenumerate => k_is)
    (case ylist => k_is)
    (case yisinstance => k_is)
    (case ytuple => k_is)
    (case yall => k_is)
    (case ymin => k_is)
    (case ymax => k_is)
    (case yValueError => k_is)


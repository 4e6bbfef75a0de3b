import PyProof.Rows.All
import Wide.All
import OpenK.AllK
import Wide.FinOn
import Lean
import PyProof.EqAt
import PyProof.EqKinds
import PyProof.TupleCall
import KE.KTryMore
import KE.KIsAll
import PyProof.ExcBaseAll.ValueError
import PyProof.NsDelKeeps
import PyProof.StrCalls2
import PyProof.StrBlockG
import PyProof.StrLawsChain
import PyProof.StrLawsIn
import PyProof.StrLawsRepr
import PyProof.ReprStr
import PyProof.StrBlockI
import PyProof.Rows.FStr
import PyProof.ExcArgsOwn
import KE.KDictList
import KE.KSortTup
import PySem.SetTable
import PyProof.SetScanFacts
import PyProof.Rows.SetFrom
import PyProof.TupleKey
import PyProof.StrWalks
import PySem.Challenge.RW_splithouse_k80_tables_read_and_shown
-- CHANGE: your row's module here, as the last of these rows
set_option Elab.async false
set_option linter.all false
set_option maxRecDepth 100000
/-! THE HAND LAYER, for ints, bools, texts, own classes, LISTS and tuples (index, slices, in, append, pop ..), calls, loops. Paste it whole ahead of your own text; what your proof does not reach may be deleted. -/
namespace L2
open PySem PySem.Spec PyProof.Rows

/-- a key: an int or a str -/
noncomputable abbrev Key := Sum Int Str
noncomputable def keyIs : Key → Value → Bool
  | .inl k, v => Value.isInt k v
  | .inr x, v => Value.isStrOf x v
noncomputable def keyH (w : World) : Key → Int
  | .inl k => hashInt k
  | .inr x => hashStr w x
theorem keyIs_shape : ∀ {k : Key} {v : Value}, keyIs k v = true → (∃ i t, k = Sum.inl i ∧ v = Value.int i t) ∨ (∃ x t, k = Sum.inr x ∧ v = Value.str x t)
  | .inl i, v, h => by
    obtain ⟨t, e⟩ := Value.isInt_shape (k := i) (v := v) h
    exact .inl ⟨i, t, rfl, e⟩
  | .inr x, v, h => by
    obtain ⟨t, e⟩ := Value.isStrOf_shape (x := x) (v := v) h
    exact .inr ⟨x, t, rfl, e⟩
theorem key_ll (a b : Int) : decide ((Sum.inl a : Key) = Sum.inl b) = (a == b) := by
  by_cases e : a = b
  · subst e; simp
  · have h : ¬ (Sum.inl a : Key) = Sum.inl b := fun q => e (Sum.inl.inj q)
    rw [decide_eq_false h]
    exact (beq_eq_false_iff_ne.mpr e).symm
theorem key_rr (a b : Str) : decide ((Sum.inr a : Key) = Sum.inr b) = decide (a = b) := by
  by_cases e : a = b
  · subst e; simp
  · have h : ¬ (Sum.inr a : Key) = Sum.inr b := fun q => e (Sum.inr.inj q)
    rw [decide_eq_false h, decide_eq_false e]
theorem key_lr (a : Int) (b : Str) : decide ((Sum.inl a : Key) = Sum.inr b) = false := decide_eq_false (fun q => nomatch q)
theorem key_rl (a : Str) (b : Int) : decide ((Sum.inr a : Key) = Sum.inl b) = false := decide_eq_false (fun q => nomatch q)

noncomputable def mixKind (prog : Program) (w : World) : PySem.KeyKind prog w Key where
  is := keyIs
  hash := keyH w
  inj := fun v a b ha hb => by
    rcases keyIs_shape ha with ⟨i, t, rfl, rfl⟩ | ⟨x, t, rfl, rfl⟩
    · rcases keyIs_shape hb with ⟨j, u, rfl, e⟩ | ⟨y, u, rfl, e⟩
      · injection e with e1 _; rw [e1]
      · exact nomatch e
    · rcases keyIs_shape hb with ⟨j, u, rfl, e⟩ | ⟨y, u, rfl, e⟩
      · exact nomatch e
      · injection e with e1 _; rw [e1]
  byValue := fun k v h => by
    rcases keyIs_shape h with ⟨i, t, rfl, rfl⟩ | ⟨x, t, rfl, rfl⟩ <;> rfl
  pyHash := fun hv h => by
    rcases keyIs_shape hv with ⟨i, t, rfl, rfl⟩ | ⟨x, t, rfl, rfl⟩
    · exact wpAny_pyHash_int h
    · exact wpAny_pyHash_str h
  eqBool := fun hu hv h => by
    rcases keyIs_shape hu with ⟨i, t, rfl, rfl⟩ | ⟨x, t, rfl, rfl⟩
    · rcases keyIs_shape hv with ⟨j, u, rfl, rfl⟩ | ⟨y, u, rfl, rfl⟩
      · rw [key_ll] at h; exact wpAny_eqBool_int h
      · rw [key_lr] at h; exact SeqAt.EqAt.int_str i t y u _ _ _ _ h
    · rcases keyIs_shape hv with ⟨j, u, rfl, rfl⟩ | ⟨y, u, rfl, rfl⟩
      · rw [key_rl] at h; exact SeqAt.EqAt.str_int x t j u _ _ _ _ h
      · rw [key_rr] at h; exact wpAny_eqBool_str h
  «strs» := fun k x t v h => by
    rcases keyIs_shape h with ⟨i, u, rfl, e⟩ | ⟨y, u, rfl, e⟩
    · exact nomatch e
    · injection e with e1 _
      subst e1
      cases v <;> rfl

end L2

namespace L2
open PySem PySem.Spec PyProof.Rows

/-- a value, without the heap -/
inductive V where
  | non | bl (b : Bool) | int (i : Int) | str (x : Str) | byt (b : Array UInt8) | flt (b : UInt64) | ref (a : Addr) | ty (n : String)
  deriving DecidableEq

noncomputable def RelV : V → Value → Prop
  | .non, u => u = Value.none
  | .bl b, u => u = Value.bool b
  | .int i, u => ∃ t, u = Value.int i t
  | .str x, u => ∃ t, u = Value.str x t
  | .byt b, u => ∃ t, u = Value.bytes b t
  | .flt b, u => ∃ t, u = Value.float b t
  | .ref a, u => u = Value.ref a
  | .ty n, u => u = Value.type n

noncomputable abbrev Vals : List V → List Value → Prop := Paired RelV
theorem Vals.length {xs : List V} {us : List Value} (r : Vals xs us) : xs.length = us.length := Paired.length r
theorem Vals.get : ∀ {xs : List V} {us : List Value} {i : Nat} {x : V}, Vals xs us → xs[i]? = some x → ∃ u, us[i]? = some u ∧ RelV x u
  | _, _, _, _, .nil, e => by simp at e
  | _, _, 0, _, .cons r _, e => by simp at e; subst e; exact ⟨_, rfl, r⟩
  | _, _, i + 1, x, .cons _ t, e => by
    obtain ⟨u, h1, h2⟩ := Vals.get (i := i) (x := x) t (by simpa using e)
    exact ⟨u, by simpa using h1, h2⟩
theorem Vals.set {x : V} {u : Value} (r : RelV x u) : ∀ {xs : List V} {us : List Value} (i : Nat), Vals xs us → Vals (xs.set i x) (us.set i u)
  | _, _, _, .nil => .nil
  | _, _, 0, .cons _ t => .cons r t
  | _, _, i + 1, .cons q t => .cons q (Vals.set r i t)
theorem Vals.append : ∀ {xs ys : List V} {us ws : List Value}, Vals xs us → Vals ys ws → Vals (xs ++ ys) (us ++ ws)
  | _, _, _, _, .nil, s => s
  | _, _, _, _, .cons r t, s => .cons r (Vals.append t s)
theorem Vals.take : ∀ {xs : List V} {us : List Value} (n : Nat), Vals xs us → Vals (xs.take n) (us.take n)
  | _, _, 0, _ => .nil
  | _, _, _ + 1, .nil => .nil
  | _, _, n + 1, .cons r t => .cons r (Vals.take n t)
theorem Vals.drop : ∀ {xs : List V} {us : List Value} (n : Nat), Vals xs us → Vals (xs.drop n) (us.drop n)
  | _, _, 0, r => r
  | _, _, _ + 1, .nil => .nil
  | _, _, n + 1, .cons _ t => Vals.drop n t
noncomputable def RelO : Option V → Option Value → Prop
  | some v, some u => RelV v u
  | none, none => True
  | _, _ => False
noncomputable def KV {κ : Type} : List (κ × V) → List (κ × Value) → Prop := Paired fun (p : κ × V) (q : κ × Value) => p.1 = q.1 ∧ RelV p.2 q.2

/-- a key of a dict (00_mix): an int or a text -/
noncomputable def kV : Key → V
  | .inl i => .int i
  | .inr x => .str x

/-- what stands at a tracked address -/
inductive HO where
  /-- a list -/
  | lst (xs : List V)
  /-- a tuple (never changes) -/
  | tup (xs : List V)
  /-- a dict whose keys are ints and texts; one whose keys are tuples of ints and texts (the empty one is both) -/
  | dK (kvs : List (Key × V)) | dT (kvs : List (List Key × V))
  /-- a set of ints: its members, its size -/
  | set (S : Int → Bool) (n : Nat)
  /-- an instance of the class at C, its dict at dx, its attributes -/
  | ins (C dx : Addr) (fs : List (Str × V))
  /-- the dict of the instance at x -/
  | own (x : Addr)
  /-- the dict of an exception -/
  | xd (fs : List (Str × V))
  /-- a bound method, f of x -/
  | met (f x : Addr)
  /-- a range object lo, lo + 1, .. below hi -/
  | rng (lo hi : Int)
  /-- a thing that is known to the object (the script; a dict while a loop walks it): read, never written while it is so -/
  | frz (o : Obj) (u : HO)
  /-- a code object's table -/
  | tbl (ps : Array Value)
  /-- any other thing, by what is true of its one object (a def of one's own: SetO a S n := HO.ext fun h => ..) -/
  | ext (φ : Heap → Prop)

noncomputable abbrev Hp := Addr → Option HO
noncomputable def upd (H : Hp) (a : Addr) (o : HO) : Hp := fun b => if b = a then some o else H b
theorem upd_same {H : Hp} {a : Addr} {o : HO} : upd H a o a = some o := by unfold upd; rw [if_pos rfl]
theorem upd_ne {H : Hp} {a b : Addr} {o : HO} (h : b ≠ a) : upd H a o b = H b := by unfold upd; rw [if_neg h]
theorem ne_of_none {H : Hp} {a b : Addr} {o : HO} (h : H a = some o) (h' : H b = none) : a ≠ b := by
  intro e; subst e; rw [h] at h'; cases h'

section
variable (P : Program) (w : World)
noncomputable def ObjOk (H : Hp) (h : Heap) (a : Addr) : HO → Prop
  | .lst xs => xs.length ≤ sizeLine ∧ ∃ (its : List Value) (n : Nat), Vals xs its ∧ h.get? a = some { cls := .type "list", data := .seq its.toArray n }
  | .tup xs => xs.length ≤ sizeLine ∧ ∃ its : List Value, Vals xs its ∧ IsTup h a its.toArray
  | .dK kvs => kvs.length ≤ sizeLine ∧ (a == sysModules) = false ∧ ∃ vs, KV kvs vs ∧ h.DictOf (mixKind P w) a vs
  | .dT kvs => kvs.length ≤ sizeLine ∧ (a == sysModules) = false ∧ ∃ xs : List (List Key × Addr × Value),
      Paired (fun (p : List Key × V) (q : List Key × Addr × Value) => p.1 = q.1 ∧ H q.2.1 = some (.tup (p.1.map kV)) ∧ RelV p.2 q.2.2) kvs xs ∧
      ∃ o es ep, h.get? a = some o ∧ o.ExactDict ∧ o.data = .dict es ep ∧ es.toList = xs.map (entryOfKey (tupleKind (mixKind P w))) ∧ (xs.map (·.1)).Nodup
  | .set S n => h.SetOf (intKind P w) a S n
  | .ins C dx fs => H dx = some (.own a) ∧ fs.length ≤ 1000 ∧ dx ≠ a ∧ h.get? a = some (PySem.W.instObj C dx) ∧
      ∃ mA, h.Ns1 dx mA ∧ (∀ f, RelO (fs.lookup f) (mA f)) ∧ PySem.Within mA (fs.map (·.1))
  | .own _ => ∃ o, h.get? a = some o
  | .xd fs => ∃ mA, h.Ns1 a mA ∧ ∀ f, RelO (fs.lookup f) (mA f)
  | .rng lo hi => ∃ t u v, h.get? a = some { cls := .type "range", data := .fields #[.int lo t, .int hi u, .int 1 v] }
  | .frz o u => h.get? a = some o ∧ ObjOk H h a u
  | .tbl ps => h.get? a = some { cls := .none, data := .fields ps }
  | .met f x => h.get? a = some (PySem.W.methodObj (.ref f) (.ref x))
  | .ext φ => φ h ∧ (∃ o, h.get? a = some o) ∧ ∀ h1 h2 : Heap, φ h1 → (∀ o, h1.get? a = some o → h2.get? a = some o) → φ h2
/-- the abstract heap is held -/
noncomputable def HOk (H : Hp) (h : Heap) : Prop := ∀ a o, H a = some o → ObjOk P w H h a o
end

section
variable {P : Program} {w : World} {H H' : Hp} {h h' : Heap} {a : Addr} {o : HO}
theorem ObjOk.lt (x : ObjOk P w H h a o) : a < h.objs.size := by
  cases o with
  | lst xs => obtain ⟨_, _, _, _, e⟩ := x; exact Heap.lt_size e
  | tup xs => obtain ⟨_, _, _, p⟩ := x; exact p.lt
  | dK kvs => obtain ⟨_, _, _, _, o, _, _, e, _⟩ := x; exact Heap.lt_size e
  | dT kvs => obtain ⟨_, _, _, _, o, _, _, e, _⟩ := x; exact Heap.lt_size e
  | set S n => obtain ⟨o, _, _, _, e, _⟩ := x; exact Heap.lt_size e
  | ins C dx fs => obtain ⟨_, _, _, e, _⟩ := x; exact Heap.lt_size e
  | own y => obtain ⟨_, e⟩ := x; exact Heap.lt_size e
  | xd fs => obtain ⟨_, ⟨_, _, _, e, _⟩, _⟩ := x; exact Heap.lt_size e
  | rng lo hi => obtain ⟨_, _, _, e⟩ := x; exact Heap.lt_size e
  | frz ob u => obtain ⟨e, _⟩ := x; exact Heap.lt_size e
  | tbl ps => exact Heap.lt_size (show h.get? a = some _ from x)
  | met f y => exact Heap.lt_size (show h.get? a = some _ from x)
  | ext φ => obtain ⟨_, ⟨_, e⟩, _⟩ := x; exact Heap.lt_size e
theorem Paired.mapP {α β : Type} {F G : α → β → Prop} : ∀ {l₁ : List α} {l₂ : List β}, Paired F l₁ l₂ → (∀ a b, F a b → G a b) → Paired G l₁ l₂
  | _, _, .nil, _ => .nil
  | _, _, .cons r t, f => .cons (f _ _ r) (Paired.mapP t f)
/-- what an object's description leans on: its own object, its own dict, the tuples -/
theorem ObjOk.stay (x : ObjOk P w H h a o) (k : ∀ b u, (b = a ∨ H b = some (.own a)) → h.get? b = some u → h'.get? b = some u)
    (ho : ∀ b, H b = some (.own a) → H' b = some (.own a)) (ht : ∀ b xs, H b = some (.tup xs) → H' b = some (.tup xs)) : ObjOk P w H' h' a o := by
  induction o with
  | lst xs => obtain ⟨z, its, n, r, e⟩ := x; exact ⟨z, its, n, r, k _ _ (.inl rfl) e⟩
  | tup xs => obtain ⟨z, its, r, ob, e, c⟩ := x; exact ⟨z, its, r, ob, k _ _ (.inl rfl) e, c⟩
  | dK kvs => obtain ⟨z, y, vs, r, ob, es, ep, e, c⟩ := x; exact ⟨z, y, vs, r, ob, es, ep, k _ _ (.inl rfl) e, c⟩
  | dT kvs =>
    obtain ⟨z, y, xs, r, ob, es, ep, e, c⟩ := x
    exact ⟨z, y, xs, Paired.mapP r fun p q z => ⟨z.1, ht _ _ z.2.1, z.2.2⟩, ob, es, ep, k _ _ (.inl rfl) e, c⟩
  | set S n => obtain ⟨ob, es, ep, t, e, c⟩ := x; exact ⟨ob, es, ep, t, k _ _ (.inl rfl) e, c⟩
  | ins C dx fs =>
    obtain ⟨d, z, ne, e, mA, ⟨od, es, ep, e2, c⟩, r⟩ := x
    exact ⟨ho _ d, z, ne, k _ _ (.inl rfl) e, mA, ⟨od, es, ep, k _ _ (.inr d) e2, c⟩, r⟩
  | own y => obtain ⟨ob, e⟩ := x; exact ⟨ob, k _ _ (.inl rfl) e⟩
  | xd fs => obtain ⟨mA, ⟨od, es, ep, e, c⟩, r⟩ := x; exact ⟨mA, ⟨od, es, ep, k _ _ (.inl rfl) e, c⟩, r⟩
  | rng lo hi => obtain ⟨t, u, v, e⟩ := x; exact ⟨t, u, v, k _ _ (.inl rfl) e⟩
  | frz ob u ih => obtain ⟨e, q⟩ := x; exact ⟨k _ _ (.inl rfl) e, ih q⟩
  | tbl ps =>
    have e : h.get? a = some { cls := .none, data := .fields ps } := x
    show h'.get? a = some { cls := .none, data := .fields ps }
    exact k a _ (.inl rfl) e
  | met f y =>
    have e : h.get? a = some (PySem.W.methodObj (.ref f) (.ref y)) := x
    show h'.get? a = some (PySem.W.methodObj (.ref f) (.ref y))
    exact k a _ (.inl rfl) e
  | ext φ => obtain ⟨p, ⟨o, e⟩, st⟩ := x; exact ⟨st _ _ p fun o q => k _ _ (.inl rfl) q, ⟨o, k _ _ (.inl rfl) e⟩, st⟩
theorem HOk.lt (x : HOk P w H h) (e : H a = some o) : a < h.objs.size := (x a o e).lt
theorem HOk.fresh (x : HOk P w H h) (e : h.objs.size ≤ a) : H a = none := by
  cases q : H a with
  | none => rfl
  | some u => exact absurd (Nat.lt_of_lt_of_le (x.lt q) e) (Nat.lt_irrefl _)
/-- every object of the heap is kept -/
theorem HOk.kept (x : HOk P w H h) (k : ∀ b u, h.get? b = some u → h'.get? b = some u) : HOk P w H h' := fun a o e =>
  (x a o e).stay (fun b u _ q => k b u q) (fun _ q => q) fun _ _ q => q
/-- a new object is laid and tracked -/
theorem HOk.laid (x : HOk P w H h) (k : ∀ b u, h.get? b = some u → h'.get? b = some u) (hp : h.objs.size ≤ a) (new : ObjOk P w (upd H a o) h' a o) : HOk P w (upd H a o) h' := fun b u e => by
  have hn := x.fresh hp
  by_cases hb : b = a
  · subst hb; rw [upd_same] at e; cases e; exact new
  · rw [upd_ne hb] at e
    exact (x b u e).stay (fun c v _ q => k c v q) (fun c q => by rw [upd_ne (ne_of_none q hn)]; exact q) fun c xs q => by rw [upd_ne (ne_of_none q hn)]; exact q
end

/-- what may be read as u: it is u, or a known u -/
noncomputable def Rd (H : Hp) (a : Addr) (u : HO) : Prop := H a = some u ∨ ∃ o, H a = some (.frz o u)
theorem Rd.ok {P : Program} {w : World} {H : Hp} {h : Heap} {a : Addr} {u : HO} (r : Rd H a u) (x : HOk P w H h) : ObjOk P w H h a u := by
  rcases r with r | ⟨o, r⟩
  · exact x a u r
  · obtain ⟨_, q⟩ := x a _ r
    exact q
/-- what may be written -/
noncomputable def Mut : Option HO → Prop
  | some (.lst _) => True
  | some (.dK _) => True
  | some (.dT _) => True
  | some (.set _ _) => True
  | some (.ins _ _ _) => True
  | some (.ext _) => True
  | _ => False
section
variable {P : Program} {w : World} {H : Hp} {h h' : Heap} {x e : Addr} {o' : HO}
/-- the object at e is changed: x itself, or the dict of the instance x -/
theorem HOk.write (ok : HOk P w H h) (mu : Mut (H x)) (he : e = x ∨ H e = some (.own x)) (k : ∀ b u, b ≠ e → h.get? b = some u → h'.get? b = some u) (heo : ∃ u, h'.get? e = some u)
    (new : ObjOk P w (upd H x o') h' x o') : HOk P w (upd H x o') h' := fun b u q => by
  have nown : ∀ c y, H c = some (.own y) → c ≠ x := fun c y r z => by subst z; rw [r] at mu; exact mu
  have ntup : ∀ c xs, H c = some (.tup xs) → c ≠ x := fun c xs r z => by subst z; rw [r] at mu; exact mu
  by_cases hb : b = x
  · subst hb; rw [upd_same] at q; cases q; exact new
  · rw [upd_ne hb] at q
    by_cases hbe : b = e
    · have q' : H b = some (.own x) := by
        rcases he with z | z
        · exact absurd (hbe.trans z) hb
        · rw [hbe]; exact z
      rw [q] at q'; cases q'
      obtain ⟨v, hv⟩ := heo
      exact ⟨v, by rw [hbe]; exact hv⟩
    · refine (ok b u q).stay (fun c v hc r => k c v ?_ r) (fun c r => by rw [upd_ne (nown c b r)]; exact r) fun c xs r => by rw [upd_ne (ntup c xs r)]; exact r
      rcases hc with rfl | hc
      · exact hbe
      · rintro rfl
        rcases he with z | z
        · exact nown c b hc z
        · rw [hc] at z; cases z; exact hb rfl
end

/-! ### kept unless tracked; of the frames at fs (the callers') the slots may change (an exception that passes writes there); of the records at ex (iterators) nothing is said -/
structure Un (fs ex : List Addr) (H H' : Hp) (h h' : Heap) : Prop where
  keep : ∀ b o, h.get? b = some o → H b = none → b ∉ fs → b ∉ ex → h'.get? b = some o
  slot : ∀ b o, h.get? b = some o → H b = none → b ∈ fs → b ∉ ex → ∃ sl, h'.get? b = some { o with slots := sl }
  free : ∀ b o, h.get? b = some o → H b = none → b ∉ ex → H' b = none
  there : ∀ b o, h.get? b = some o → b ∉ ex → ∃ o', h'.get? b = some o'
  tups : ∀ b xs, H b = some (.tup xs) → H' b = some (.tup xs)
  frzs : ∀ b o u, H b = some (.frz o u) → H' b = some (.frz o u)
  tbls : ∀ b ps, H b = some (.tbl ps) → ∃ more, H' b = some (.tbl (ps ++ more))
section
variable {fs fs' ex ex' : List Addr} {H H1 H2 : Hp} {h h1 h2 h' : Heap} {a x e : Addr} {o : HO}
theorem Un.any (u : Un fs ex H H1 h h1) {b : Addr} {ob : Obj} (q : h.get? b = some ob) (n : H b = none) (hx : b ∉ ex) : ∃ sl, h1.get? b = some { ob with slots := sl } := by
  by_cases hb : b ∈ fs
  · exact u.slot b ob q n hb hx
  · exact ⟨ob.slots, u.keep b ob q n hb hx⟩
theorem Un.kept (k : ∀ b u, h.get? b = some u → h'.get? b = some u) : Un fs ex H H h h' :=
  ⟨fun b ob q _ _ _ => k b ob q, fun b ob q _ _ _ => ⟨ob.slots, k b ob q⟩, fun _ _ _ n _ => n, fun b ob q _ => ⟨ob, k b ob q⟩, fun _ _ q => q, fun _ _ _ q => q, fun _ ps q => ⟨#[], by rw [q]; simp⟩⟩
theorem Un.refl : Un fs ex H H h h := Un.kept fun _ _ q => q
theorem Un.laid (k : ∀ b u, h.get? b = some u → h'.get? b = some u) (hp : h.objs.size ≤ a) (hn : H a = none) : Un fs ex H (upd H a o) h h' where
  keep := fun b u q _ _ _ => k b u q
  slot := fun b u q _ _ _ => ⟨u.slots, k b u q⟩
  free := fun b u q n _ => by rw [upd_ne (Nat.ne_of_lt (Nat.lt_of_lt_of_le (Heap.lt_size q) hp))]; exact n
  there := fun b u q _ => ⟨u, k b u q⟩
  tups := fun b xs q => by rw [upd_ne (ne_of_none q hn)]; exact q
  frzs := fun b u xs q => by rw [upd_ne (ne_of_none q hn)]; exact q
  tbls := fun b ps q => ⟨#[], by rw [upd_ne (ne_of_none q hn), q]; simp⟩
theorem Un.write (mu : Mut (H x)) (he : e = x ∨ H e = some (.own x)) (k : ∀ b u, b ≠ e → h.get? b = some u → h'.get? b = some u) (heo : ∃ u, h'.get? e = some u) : Un fs ex H (upd H x o) h h' := by
  have hx : ∀ b, H b = none → b ≠ x := fun b n z => by subst z; rw [n] at mu; exact mu
  have hb : ∀ b, H b = none → b ≠ e := fun b n z => by
    subst z
    rcases he with r | r
    · exact hx b n r
    · rw [n] at r; cases r
  have hm : ∀ b u, H b = some u → ¬ Mut (some u) → b ≠ x := fun b u q nm z => by subst z; rw [q] at mu; exact nm mu
  refine ⟨fun b u q n _ _ => k b u (hb b n) q, fun b u q n _ _ => ⟨u.slots, k b u (hb b n) q⟩, fun b u q n _ => by rw [upd_ne (hx b n)]; exact n, fun b u q _ => ?_,
    fun b xs q => by rw [upd_ne (hm b _ q fun z => z)]; exact q, fun b u xs q => by rw [upd_ne (hm b _ q fun z => z)]; exact q, fun b ps q => ⟨#[], by rw [upd_ne (hm b _ q fun z => z), q]; simp⟩⟩
  by_cases hbe : b = e
  · subst hbe; exact heo
  · exact ⟨u, k b u hbe q⟩
end

/-! ### the heap without what is tracked -/
noncomputable def trk (h : Heap) (H : Hp) : List Addr := (List.range h.objs.size).filter fun a => (H a).isSome
noncomputable def hidT (h : Heap) (H : Hp) : Heap := PySem.W.hideAll h (trk h H)
theorem hidT_size (h : Heap) (H : Hp) : (hidT h H).objs.size = h.objs.size := PySem.W.hideAll_size _ _
theorem hidT_get {h : Heap} {H : Hp} {b : Addr} {o : Obj} (e : h.get? b = some o) (n : H b = none) : (hidT h H).get? b = some o :=
  PySem.W.hideAll_get _ e fun hm => by
    have q : (H b).isSome = true := (List.mem_filter.mp hm).2
    rw [n] at q; simp at q
theorem of_hidT {h : Heap} {H : Hp} {b : Addr} {o : Obj} (e : (hidT h H).get? b = some o) : h.get? b = some o ∧ H b = none := by
  have e' : h.get? b = some o := PySem.W.of_hideAll (trk h H) e
  refine ⟨e', ?_⟩
  cases q : H b with
  | none => rfl
  | some x =>
    have hm : b ∈ trk h H := List.mem_filter.mpr ⟨List.mem_range.mpr (Heap.lt_size e'), by simp [q]⟩
    have z : (hidT h H).get? b = none := PySem.W.hideAll_none (trk h H) hm
    rw [z] at e; cases e

/-! ### OpenK's ledger, filled with every new object but one -/
end L2

namespace L2
open PySem PySem.Spec PyProof.Rows

/-- the module's facts, over the base: the heap at the law's entry without what is tracked there -/
structure Mod (K : PySem.W.Frag) (mg : Str → Option Value) (base : Heap) : Prop where
  kin : K.In base
  glob : base.Ns mainGlobals mg
  blt : ∃ mb, base.Ns builtinsNs mb ∧ ∀ x : Str, x ≠ "__name__" → mb x = bootBuiltins x
  nolimit : base.NoLimit

/-- the context: a def's body (or a comprehension's block) running. base: fixed through the whole law; s₀, H₀: the entry; outer: the frames whose slots others may change (a def's callers); stack: all frames that run;
   ex: iterators that were made ahead of the entry and are walked here (a comprehension's); fn: the names whose cells were made at the entry (a def: all; a comprehension's block: its own); calm: not within an except suite; pn: pins that every state bears; xe: what is wanted of an exception that leaves the code -/
structure Cx where
  prog : Program
  w : World
  K : PySem.W.Frag
  mg : Str → Option Value
  base : Heap
  A : Around
  N : List Str
  s₀ : Shared
  H₀ : Hp
  env : Env
  outer : List Env
  stack : List Env
  ex : List Addr
  fn : Str → Bool
  calm : Bool
  pn : List (Addr × Obj)
  xe : Value → Shared → Prop
/-- the callers' frames -/
noncomputable def frs (l : List Env) : List Addr := l.filterMap (·.frame)
noncomputable abbrev Cx.fs (X : Cx) : List Addr := frs X.outer

noncomputable def Vis (sc : Scope) (x : Str) : Prop := sc.names.lookup x = some .local ∨ sc.names.lookup x = some .cell ∨ sc.names.lookup x = some .free
noncomputable def Loc (sc : Scope) (x : Str) : Prop := sc.names.lookup x = some .local ∨ sc.names.lookup x = some .cell
noncomputable def Look (env : Env) (h : Heap) (m : Str → Option Value) (x : Str) (u : Value) : Prop :=
  (env.kindOf x = some .local ∧ m x = some u) ∨ ((env.kindOf x = some .cell ∨ env.kindOf x = some .free) ∧ ∃ c, env.cells.lookup x = some c ∧ h.IsCell c (some u))

structure Cx.Ok (X : Cx) : Prop where
  mod : Mod X.K X.mg X.base
  kind : X.env.scope.kind = .function
  glob : X.env.globals = mainGlobals
  blt : X.env.builtins = builtinsNs
  above : X.s₀.heap.objs.size ≤ X.env.locals
  inj : ∀ x y c, X.env.cells.lookup x = some c → X.env.cells.lookup y = some c → x = y
  has : ∀ x, (X.env.kindOf x = some .cell ∨ X.env.kindOf x = some .free) → ∃ c, X.env.cells.lookup x = some c
  cab : ∀ x c, X.fn x = true → X.env.cells.lookup x = some c → X.s₀.heap.objs.size ≤ c
  hd : X.calm = true → X.A.handled = none
  frames : X.A.frames = some X.stack
  stk : X.stack = X.outer ∨ (X.stack = X.env :: X.outer ∧ X.env.frame = some X.env.locals)
  exf : ∀ b ∈ X.ex, b ≠ X.env.locals ∧ ∀ x c, X.env.cells.lookup x = some c → c ≠ b
  bs : ∀ b o, X.base.get? b = some o → X.s₀.heap.get? b = some o ∧ X.H₀ b = none
  bsz : X.base.objs.size ≤ X.s₀.heap.objs.size
  noex : ∀ b o, X.base.get? b = some o → b ∉ X.ex
  exfs : ∀ b ∈ X.ex, b ∉ X.fs
  funs : X.s₀.heap.FunFrames X.base X.outer
  frf : ∀ b ∈ X.fs, X.H₀ b = none

structure Inv (X : Cx) (pins : List (Addr × Obj)) (σ : List (Option V)) (H : Hp) (s : Shared) : Prop where
  ok : X.Ok
  os : s.os = X.s₀.os
  bare : AllBare s.gens
  base : Un X.fs X.ex X.H₀ H X.s₀.heap s.heap
  loc : ∃ m, s.heap.Ns X.env.locals m ∧ ∀ (i : Nat) (x : Str) (v : V), X.N[i]? = some x → σ[i]? = some (some v) → Vis X.env.scope x → ∃ u, RelV v u ∧ Look X.env s.heap m x u
  cell : ∀ x c, X.env.cells.lookup x = some c → ∃ v, s.heap.IsCell c v
  free : H X.env.locals = none
  freeC : ∀ x c, X.env.cells.lookup x = some c → H c = none
  pin : ∀ p ∈ X.pn ++ pins, s.heap.get? p.1 = some p.2 ∧ H p.1 = none ∧ p.1 ≠ X.env.locals ∧ p.1 ∉ X.fs ∧ ∀ v, p.2.data ≠ .cell v
  hok : HOk X.prog X.w H s.heap
  len : σ.length = X.N.length

section
variable {X : Cx} {pins : List (Addr × Obj)} {σ : List (Option V)} {H H' : Hp} {s : Shared} {h' : Heap}

theorem Cx.Ok.nofr (ok : X.Ok) {b : Addr} {o : Obj} (e : X.base.get? b = some o) : b ∉ X.fs := fun hb => by
  have := (ok.funs.mem hb).1
  rw [e] at this; cases this
theorem Inv.bs (I : Inv X pins σ H s) : ∀ b o, X.base.get? b = some o → s.heap.get? b = some o ∧ H b = none := fun b o e =>
  ⟨I.base.keep b o (I.ok.bs b o e).1 (I.ok.bs b o e).2 (I.ok.nofr e) (I.ok.noex b o e), I.base.free b o (I.ok.bs b o e).1 (I.ok.bs b o e).2 (I.ok.noex b o e)⟩
theorem Inv.bk (I : Inv X pins σ H s) : ∀ b o, X.base.get? b = some o → s.heap.get? b = some o := fun b o e => (I.bs b o e).1
theorem Inv.mod (I : Inv X pins σ H s) : Mod X.K X.mg X.base := I.ok.mod
theorem Inv.kIn (I : Inv X pins σ H s) : X.K.In s.heap := I.ok.mod.kin.keeps I.bk
theorem Inv.lt (I : Inv X pins σ H s) : X.env.locals < s.heap.objs.size := let ⟨_, hn, _⟩ := I.loc; hn.lt
theorem Inv.sz (I : Inv X pins σ H s) : X.s₀.heap.objs.size ≤ s.heap.objs.size := Nat.le_trans I.ok.above (Nat.le_of_lt I.lt)
theorem Inv.nofs (I : Inv X pins σ H s) {a : Addr} (h : s.heap.objs.size ≤ a) : a ∉ X.fs := fun hb => by
  obtain ⟨_, o, ho, _⟩ := I.ok.funs.mem hb
  exact absurd (Nat.lt_of_lt_of_le (Heap.lt_size ho) (Nat.le_trans I.sz h)) (Nat.lt_irrefl _)
theorem Inv.cne (I : Inv X pins σ H s) : ∀ x c, X.env.cells.lookup x = some c → c ≠ X.env.locals := fun x c e z => by
  obtain ⟨v, o, ho, hd⟩ := I.cell x c e
  obtain ⟨m, ⟨o', es, ep, ho', hd', _⟩, _⟩ := I.loc
  rw [z, ho'] at ho; cases ho; rw [hd'] at hd; cases hd
theorem Inv.funs (I : Inv X pins σ H s) : s.heap.FunFrames X.base X.outer := by
  have all : ∀ (l : List Env), (∀ b ∈ frs l, b ∈ X.fs) → X.s₀.heap.FunFrames X.base l → s.heap.FunFrames X.base l := by
    intro l
    induction l with
    | nil => intro _ _; trivial
    | cons env r ih =>
      intro hs hl
      obtain ⟨hk, ⟨L, o, hf, hn, ho, hd⟩, hr⟩ := hl
      have hL : L ∈ X.fs := hs L (by unfold frs; rw [List.filterMap_cons, hf]; exact List.mem_cons_self)
      obtain ⟨sl, e⟩ := I.base.slot L o ho (I.ok.frf L hL) hL fun z => I.ok.exfs L z hL
      exact ⟨hk, ⟨L, _, hf, hn, e, hd⟩, ih (fun b hb => hs b (by unfold frs; rw [List.filterMap_cons, hf]; exact List.mem_cons_of_mem _ hb)) hr⟩
  exact all X.outer (fun _ hb => hb) I.ok.funs

/-- the frames that run, for a call -/
theorem Inv.stack (I : Inv X pins σ H s) : s.heap.FunFrames X.base X.stack := by
  rcases I.ok.stk with e | ⟨e, hf⟩
  · rw [e]; exact I.funs
  · rw [e]
    obtain ⟨m, hn, _⟩ := I.loc
    refine .cons (by rw [I.ok.kind]; decide) hf hn ?_ I.funs
    exact Heap.get?_none_of_le (Nat.le_trans I.ok.bsz I.ok.above)
theorem Inv.stkSub (I : Inv X pins σ H s) : ∀ b ∈ frs X.stack, b ∈ X.env.locals :: X.fs := fun b hb => by
  rcases I.ok.stk with e | ⟨e, hf⟩
  · rw [e] at hb; exact List.mem_cons_of_mem _ hb
  · rw [e] at hb
    unfold frs at hb
    rw [List.filterMap_cons, hf] at hb
    exact hb
theorem Inv.stkFree (I : Inv X pins σ H s) : ∀ b ∈ frs X.stack, H b = none := fun b hb => by
  rcases List.mem_cons.mp (I.stkSub b hb) with e | hb
  · rw [e]; exact I.free
  · obtain ⟨_, o, ho, _⟩ := I.ok.funs.mem hb
    exact I.base.free b o ho (I.ok.frf b hb) fun z => I.ok.exfs b z hb

/-- THE STEP: the untracked objects but the frame and the records at ch are kept (the callers' frames up to slots), the frame's map is kept, the new abstract heap is held -/
theorem Inv.step {g' : Array GenState} {t' : Nat} {d' : Drawn} {ch : List Addr} (I : Inv X pins σ H s)
    (hch : ∀ b ∈ ch, (b ∈ X.ex ∨ X.s₀.heap.objs.size ≤ b) ∧ b ≠ X.env.locals ∧ (∀ x c, X.env.cells.lookup x = some c → c ≠ b) ∧ ∀ p ∈ X.pn ++ pins, p.1 ≠ b)
    (keep : ∀ b o, b ≠ X.env.locals → b ∉ X.fs → b ∉ ch → s.heap.get? b = some o → H b = none → h'.get? b = some o)
    (slot : ∀ b o, b ≠ X.env.locals → b ∈ X.fs → b ∉ ch → s.heap.get? b = some o → H b = none → ∃ sl, h'.get? b = some { o with slots := sl }) (free : ∀ b o, b ∉ ch → s.heap.get? b = some o → H b = none → H' b = none)
    (there : ∀ b o, b ∉ ch → s.heap.get? b = some o → ∃ o', h'.get? b = some o')
    (tups : ∀ b xs, H b = some (.tup xs) → H' b = some (.tup xs)) (frzs : ∀ b o u, H b = some (.frz o u) → H' b = some (.frz o u)) (tbls : ∀ b ps, H b = some (.tbl ps) → ∃ more, H' b = some (.tbl (ps ++ more)))
    (ns : ∀ m, s.heap.Ns X.env.locals m → h'.Ns X.env.locals m) (hok : HOk X.prog X.w H' h') (hg : AllBare g') :
    Inv X pins σ H' { s with heap := h', gens := g', drawn := d', toks := t' } := by
  have neL : ∀ b o, X.s₀.heap.get? b = some o → b ≠ X.env.locals := fun b o e => Nat.ne_of_lt (Nat.lt_of_lt_of_le (Heap.lt_size e) I.ok.above)
  have neC : ∀ b o, X.s₀.heap.get? b = some o → b ∉ X.ex → b ∉ ch := fun b o e hx hb => by
    rcases (hch b hb).1 with z | z
    · exact hx z
    · exact absurd (Nat.lt_of_lt_of_le (Heap.lt_size e) z) (Nat.lt_irrefl _)
  have cellK : ∀ x c, X.env.cells.lookup x = some c → ∀ v, s.heap.IsCell c v → h'.IsCell c v := fun x c e v ⟨o, ho, hd⟩ => by
    have nch : c ∉ ch := fun z => (hch c z).2.2.1 x c e rfl
    by_cases hc : c ∈ X.fs
    · obtain ⟨sl, q⟩ := slot c o (I.cne x c e) hc nch ho (I.freeC x c e)
      exact ⟨_, q, hd⟩
    · exact ⟨o, keep c o (I.cne x c e) hc nch ho (I.freeC x c e), hd⟩
  refine ⟨I.ok, I.os, hg, ⟨fun b o e n hb hx => ?_, fun b o e n hb hx => ?_, fun b o e n hx => ?_, fun b o e hx => ?_, fun b xs e => tups b xs (I.base.tups b xs e), fun b o xs e => frzs b o xs (I.base.frzs b o xs e), fun b ps e => ?_⟩, ?_, fun x c e => ?_, ?_, fun x c e => ?_, fun p hp => ?_, hok, I.len⟩
  · exact keep b o (neL b o e) hb (neC b o e hx) (I.base.keep b o e n hb hx) (I.base.free b o e n hx)
  · obtain ⟨sl, e1⟩ := I.base.slot b o e n hb hx
    obtain ⟨sl', e2⟩ := slot b _ (neL b o e) hb (neC b o e hx) e1 (I.base.free b o e n hx)
    exact ⟨sl', e2⟩
  · obtain ⟨o', e1⟩ := I.base.there b o e hx
    exact free b o' (neC b o e hx) e1 (I.base.free b o e n hx)
  · obtain ⟨o', e1⟩ := I.base.there b o e hx
    exact there b o' (neC b o e hx) e1
  · obtain ⟨m1, e1⟩ := I.base.tbls b ps e
    obtain ⟨m2, e2⟩ := tbls b _ e1
    exact ⟨m1 ++ m2, by rw [e2, Array.append_assoc]⟩
  · obtain ⟨m, hn, hl⟩ := I.loc
    refine ⟨m, ns m hn, fun i x v e1 e2 e3 => ?_⟩
    obtain ⟨u, r, l⟩ := hl i x v e1 e2 e3
    refine ⟨u, r, ?_⟩
    rcases l with l | ⟨k, c, e, z⟩
    · exact .inl l
    · exact .inr ⟨k, c, e, cellK x c e _ z⟩
  · obtain ⟨v, z⟩ := I.cell x c e
    exact ⟨v, cellK x c e v z⟩
  · obtain ⟨m, ⟨o, _, _, ho, _⟩, _⟩ := I.loc
    exact free _ o (fun z => (hch _ z).2.1 rfl) ho I.free
  · obtain ⟨v, o, ho, hd⟩ := I.cell x c e
    exact free c o (fun z => (hch c z).2.2.1 x c e rfl) ho (I.freeC x c e)
  · obtain ⟨e, n, ne, nf, d⟩ := I.pin p hp
    have nch : p.1 ∉ ch := fun z => (hch p.1 z).2.2.2 p hp rfl
    exact ⟨keep p.1 p.2 ne nf nch e n, free p.1 p.2 nch e n, ne, nf, d⟩
/-- .. where the frame's own object is kept too -/
theorem Inv.un {t' : Nat} (I : Inv X pins σ H s) (u : Un X.fs [] H H' s.heap h') (hok : HOk X.prog X.w H' h') : Inv X pins σ H' { s with heap := h', toks := t' } := by
  obtain ⟨m, ⟨o, es, ep, ho, r⟩, _⟩ := id I.loc
  obtain ⟨sl, hL⟩ := u.any ho I.free (by simp)
  exact I.step (g' := s.gens) (d' := s.drawn) (ch := []) (fun _ z => nomatch z) (fun b o _ hb _ e n => u.keep b o e n hb (by simp)) (fun b o _ hb _ e n => u.slot b o e n hb (by simp)) (fun b o _ e n => u.free b o e n (by simp)) (fun b o _ e => u.there b o e (by simp)) u.tups u.frzs u.tbls (fun m' hm => by
    obtain ⟨o', es', ep', ho', r'⟩ := hm
    rw [ho] at ho'; cases ho'
    exact ⟨_, es', ep', hL, r'⟩) hok I.bare
/-- behind a call (or a comprehension's block): the slots of this frame may have changed too, the records at ch may have turned -/
theorem Inv.call {g' : Array GenState} {t' : Nat} {d' : Drawn} {ch : List Addr} (I : Inv X pins σ H s) (u : Un (frs X.stack) ch H H' s.heap h') (hok : HOk X.prog X.w H' h') (hg : AllBare g')
    (hch : ∀ b ∈ ch, (b ∈ X.ex ∨ X.s₀.heap.objs.size ≤ b) ∧ b ≠ X.env.locals ∧ (∀ x c, X.env.cells.lookup x = some c → c ≠ b) ∧ ∀ p ∈ X.pn ++ pins, p.1 ≠ b) :
    Inv X pins σ H' { s with heap := h', gens := g', drawn := d', toks := t' } := by
  obtain ⟨m, ⟨o, es, ep, ho, r⟩, _⟩ := id I.loc
  obtain ⟨sl, hL⟩ := u.any ho I.free fun z => (hch _ z).2.1 rfl
  exact I.step (ch := ch) hch (fun b o hL hb hc e n => u.keep b o e n (fun z => (List.mem_cons.mp (I.stkSub b z)).elim hL hb) hc) (fun b o _ _ hc e n => u.any e n hc) (fun b o hc e n => u.free b o e n hc) (fun b o hc e => u.there b o e hc) u.tups u.frzs u.tbls (fun m' hm => by
    obtain ⟨o', es', ep', ho', r'⟩ := hm
    rw [ho] at ho'; cases ho'
    exact ⟨_, es', ep', hL, r'⟩) hok hg
/-- an untracked record of ours (an iterator) has turned -/
theorem Inv.turned {t' : Nat} {it : Addr} (I : Inv X pins σ H s) (k : ∀ b o, b ≠ it → s.heap.get? b = some o → h'.get? b = some o) (hn : H it = none) (hL : it ≠ X.env.locals)
    (h1 : it ∈ X.ex ∨ X.s₀.heap.objs.size ≤ it) (h2 : ∀ x c, X.env.cells.lookup x = some c → c ≠ it) (h3 : ∀ p ∈ X.pn ++ pins, p.1 ≠ it) : Inv X pins σ H { s with heap := h', toks := t' } := by
  have nit : ∀ b u, H b = some u → b ≠ it := fun b u e z => by rw [z, hn] at e; cases e
  refine I.step (g' := s.gens) (d' := s.drawn) (ch := [it]) (fun b hb => ?_) (fun b o _ _ hc e _ => k b o (fun z => hc (by simp [z])) e) (fun b o _ _ hc e _ => ⟨o.slots, k b o (fun z => hc (by simp [z])) e⟩) (fun _ _ _ _ n => n)
    (fun b o hc e => ⟨o, k b o (fun z => hc (by simp [z])) e⟩) (fun _ _ e => e) (fun _ _ _ e => e) (fun b ps e => ⟨#[], by rw [e]; simp⟩) (fun m hm => ?_) (fun b u e => ?_) I.bare
  · have e : b = it := by simpa using hb
    subst e
    exact ⟨h1, hL, h2, h3⟩
  · obtain ⟨o, es, ep, ho, r⟩ := hm
    exact ⟨o, es, ep, k _ o (Ne.symm hL) ho, r⟩
  · refine (I.hok b u e).stay (fun c v hc q => k c v ?_ q) (fun _ q => q) fun _ _ q => q
    rcases hc with z | z
    · rw [z]; exact nit b u e
    · exact nit c _ z
theorem Inv.tok (I : Inv X pins σ H s) (t : Nat) : Inv X pins σ H { s with toks := t } := I.un (h' := s.heap) (t' := t) Un.refl I.hok
/-- all objects kept -/
theorem Inv.kept {t' : Nat} (I : Inv X pins σ H s) (k : ∀ b u, s.heap.get? b = some u → h'.get? b = some u) : Inv X pins σ H { s with heap := h', toks := t' } := I.un (Un.kept k) (I.hok.kept k)
/-- a new object laid and tracked -/
theorem Inv.laid {a : Addr} {o : HO} {t' : Nat} (I : Inv X pins σ H s) (k : ∀ b u, s.heap.get? b = some u → h'.get? b = some u) (hp : s.heap.objs.size ≤ a) (new : ObjOk X.prog X.w (upd H a o) h' a o) :
    Inv X pins σ (upd H a o) { s with heap := h', toks := t' } := I.un (Un.laid k hp (I.hok.fresh hp)) (I.hok.laid k hp new)
/-- an object written -/
theorem Inv.write {x e : Addr} {o : HO} {t' : Nat} (I : Inv X pins σ H s) (mu : Mut (H x)) (he : e = x ∨ H e = some (.own x)) (k : ∀ b u, b ≠ e → s.heap.get? b = some u → h'.get? b = some u) (heo : ∃ u, h'.get? e = some u)
    (new : ObjOk X.prog X.w (upd H x o) h' x o) : Inv X pins σ (upd H x o) { s with heap := h', toks := t' } := I.un (Un.write mu he k heo) (I.hok.write mu he k heo new)
/-- forgetting slots, pins -/
theorem Inv.weak {σ' : List (Option V)} (I : Inv X pins σ H s) (hl : σ'.length = σ.length) (w : ∀ (i : Nat) v, σ'[i]? = some (some v) → σ[i]? = some (some v)) : Inv X pins σ' H s :=
  ⟨I.ok, I.os, I.bare, I.base, let ⟨m, hn, hl'⟩ := I.loc; ⟨m, hn, fun i x v e1 e2 e3 => hl' i x v e1 (w i v e2) e3⟩, I.cell, I.free, I.freeC, I.pin, I.hok, hl.trans I.len⟩
theorem Inv.pins_of {pins' : List (Addr × Obj)} (I : Inv X pins σ H s) (h : ∀ p ∈ pins', s.heap.get? p.1 = some p.2 ∧ H p.1 = none ∧ p.1 ≠ X.env.locals ∧ p.1 ∉ X.fs ∧ ∀ v, p.2.data ≠ .cell v) : Inv X pins' σ H s :=
  ⟨I.ok, I.os, I.bare, I.base, I.loc, I.cell, I.free, I.freeC, fun p hp => (List.mem_append.mp hp).elim (fun z => I.pin p (List.mem_append_left _ z)) (h p), I.hok, I.len⟩

theorem nodup_ix {N : List Str} (hN : N.Nodup) {i j : Nat} {x : Str} (a : N[i]? = some x) (b : N[j]? = some x) : i = j := by
  obtain ⟨h1, e1⟩ := List.getElem?_eq_some_iff.mp a
  obtain ⟨h2, e2⟩ := List.getElem?_eq_some_iff.mp b
  exact (List.getElem_inj hN).mp (e1.trans e2.symm)

/-- a name is stored; what changed -/
theorem store_ok2 {M : Model} {A : Around} {E : Value → Shared → Prop} {i : Nat} {x : Str} {v : V} {u : Value} {Q : Unit → Shared → Prop} (I : Inv X pins σ H s) (hN : X.N.Nodup) (hi : X.N[i]? = some x) (hx : Loc X.env.scope x) (r : RelV v u)
    (h : ∀ s', Inv X pins (σ.set i (some v)) H s' → (∃ a, Heap.SameBut a s.heap s'.heap ∧ (a = X.env.locals ∨ X.env.cells.lookup x = some a)) → Q () s') (hf : X.fn x = true ∨ X.env.scope.names.lookup x = some .local := by first | exact .inl rfl | exact .inr rfl | assumption) : wpAny M A (storeName X.env x u) Q E s := by
  obtain ⟨m, hn, hl⟩ := id I.loc
  have hcls : (X.env.scope.kind == .class || (X.env.scope.kind == .module && X.env.locals != X.env.globals)) = false := by rw [I.ok.kind]; rfl
  have hiσ : i < σ.length := by rw [I.len]; exact (List.getElem?_eq_some_iff.mp hi).1
  have cne := I.cne
  have tracked : ∀ {a : Addr} {h' : Heap}, (∃ o, s.heap.get? a = some o ∧ H a = none) → Heap.SameBut a s.heap h' → HOk X.prog X.w H h' := fun {a h'} ha hs b ob e => by
    obtain ⟨_, _, hfree⟩ := ha
    refine (I.hok b ob e).stay (fun c w' hc q => (hs.2 c ?_).trans q) (fun _ q => q) fun _ _ q => q
    rintro rfl
    rcases hc with rfl | hc
    · rw [hfree] at e; cases e
    · rw [hfree] at hc; cases hc
  rcases hx with hk | hk
  · refine wpAny_storeName_local hk hn (fun h' hn' hs => ?_) hcls
    obtain ⟨oL, _, _, hoL, _⟩ := id hn
    refine h _ ⟨I.ok, I.os, I.bare, ⟨fun b o e n hb hx => ?_, fun b o e n hb hx => ?_, I.base.free, fun b o e hx => ?_, I.base.tups, I.base.frzs, I.base.tbls⟩, ⟨_, hn', fun j y v' e1 e2 e3 => ?_⟩, fun y c e => ?_, I.free, I.freeC, fun p hp => ?_, tracked ⟨oL, hoL, I.free⟩ hs, by simpa using I.len⟩ ⟨_, hs, .inl rfl⟩
    · exact (hs.2 b (Nat.ne_of_lt (Nat.lt_of_lt_of_le (Heap.lt_size e) I.ok.above))).trans (I.base.keep b o e n hb hx)
    · obtain ⟨sl, e1⟩ := I.base.slot b o e n hb hx
      exact ⟨sl, (hs.2 b (Nat.ne_of_lt (Nat.lt_of_lt_of_le (Heap.lt_size e) I.ok.above))).trans e1⟩
    · obtain ⟨o', e1⟩ := I.base.there b o e hx
      exact ⟨o', (hs.2 b (Nat.ne_of_lt (Nat.lt_of_lt_of_le (Heap.lt_size e) I.ok.above))).trans e1⟩
    · by_cases hj : j = i
      · subst hj
        rw [hi] at e1; cases e1
        rw [List.getElem?_set_self hiσ] at e2
        cases e2
        exact ⟨u, r, .inl ⟨hk, by simp⟩⟩
      · rw [List.getElem?_set_ne (Ne.symm hj)] at e2
        obtain ⟨u', r', q⟩ := hl j y v' e1 e2 e3
        refine ⟨u', r', ?_⟩
        rcases q with ⟨k, e⟩ | ⟨k, c, e, z⟩
        · refine .inl ⟨k, ?_⟩
          have : y ≠ x := fun e => hj (nodup_ix hN e1 (e ▸ hi))
          simp [this, e]
        · exact .inr ⟨k, c, e, z.sameBut hs (cne y c e)⟩
    · obtain ⟨w', z⟩ := I.cell y c e
      exact ⟨w', z.sameBut hs (cne y c e)⟩
    · obtain ⟨e, n, ne, nf, d⟩ := I.pin p hp
      exact ⟨(hs.2 p.1 ne).trans e, n, ne, nf, d⟩
  · have hfn : X.fn x = true := by
      rcases hf with z | z
      · exact z
      · rw [z] at hk; cases hk
    obtain ⟨c, hc⟩ := I.ok.has x (.inl hk)
    obtain ⟨w', z⟩ := I.cell x c hc
    refine wpAny_storeName_cell I.ok.kind hk hc z (fun h' hc' hs => ?_)
    obtain ⟨oc, hoc, hocd⟩ := id z
    refine h { s with heap := h' } ⟨I.ok, I.os, I.bare, ⟨fun b o e n hb hx => ?_, fun b o e n hb hx => ?_, I.base.free, fun b o e hx => ?_, I.base.tups, I.base.frzs, I.base.tbls⟩, ⟨m, hn.sameBut hs (Ne.symm (cne x c hc)), fun j y v' e1 e2 e3 => ?_⟩, fun y c' e => ?_, I.free, I.freeC, fun p hp => ?_, tracked ⟨oc, hoc, I.freeC x c hc⟩ hs, by simpa using I.len⟩ ⟨c, hs, .inr hc⟩
    · exact (hs.2 b (Nat.ne_of_lt (Nat.lt_of_lt_of_le (Heap.lt_size e) (I.ok.cab x c hfn hc)))).trans (I.base.keep b o e n hb hx)
    · obtain ⟨sl, e1⟩ := I.base.slot b o e n hb hx
      exact ⟨sl, (hs.2 b (Nat.ne_of_lt (Nat.lt_of_lt_of_le (Heap.lt_size e) (I.ok.cab x c hfn hc)))).trans e1⟩
    · obtain ⟨o', e1⟩ := I.base.there b o e hx
      exact ⟨o', (hs.2 b (Nat.ne_of_lt (Nat.lt_of_lt_of_le (Heap.lt_size e) (I.ok.cab x c hfn hc)))).trans e1⟩
    · by_cases hj : j = i
      · subst hj
        rw [hi] at e1; cases e1
        rw [List.getElem?_set_self hiσ] at e2
        cases e2
        exact ⟨u, r, .inr ⟨.inl hk, c, hc, hc'⟩⟩
      · rw [List.getElem?_set_ne (Ne.symm hj)] at e2
        obtain ⟨u', r', q⟩ := hl j y v' e1 e2 e3
        refine ⟨u', r', ?_⟩
        rcases q with q | ⟨k, c', e, z'⟩
        · exact .inl q
        · refine .inr ⟨k, c', e, z'.sameBut hs ?_⟩
          rintro rfl
          exact hj (nodup_ix hN e1 (I.ok.inj _ _ _ e hc ▸ hi))
    · by_cases hcc : c' = c
      · subst hcc; exact ⟨_, hc'⟩
      · obtain ⟨w2, z2⟩ := I.cell y c' e
        exact ⟨w2, z2.sameBut hs hcc⟩
    · obtain ⟨e, n, ne, nf, d⟩ := I.pin p hp
      refine ⟨(hs.2 p.1 ?_).trans e, n, ne, nf, d⟩
      intro q
      rw [q, hoc] at e
      have q' : oc = p.2 := Option.some.inj e
      exact d w' (by rw [← q']; exact hocd)
theorem store_ok {M : Model} {A : Around} {E : Value → Shared → Prop} {i : Nat} {x : Str} {v : V} {u : Value} {Q : Unit → Shared → Prop} (I : Inv X pins σ H s) (hN : X.N.Nodup) (hi : X.N[i]? = some x) (hx : Loc X.env.scope x) (r : RelV v u)
    (h : ∀ s', Inv X pins (σ.set i (some v)) H s' → Q () s') (hf : X.fn x = true ∨ X.env.scope.names.lookup x = some .local := by first | exact .inl rfl | exact .inr rfl | assumption) : wpAny M A (storeName X.env x u) Q E s :=
  store_ok2 I hN hi hx r (fun s' I' _ => h s' I') hf
/-- behind a call or a block, the state as it is -/
theorem Inv.call' {s' : Shared} {ch : List Addr} (I : Inv X pins σ H s) (ho : s'.os = s.os) (u : Un (frs X.stack) ch H H' s.heap s'.heap) (hok : HOk X.prog X.w H' s'.heap) (hg : AllBare s'.gens)
    (hch : ∀ b ∈ ch, (b ∈ X.ex ∨ X.s₀.heap.objs.size ≤ b) ∧ b ≠ X.env.locals ∧ (∀ x c, X.env.cells.lookup x = some c → c ≠ b) ∧ ∀ p ∈ X.pn ++ pins, p.1 ≠ b) : Inv X pins σ H' s' := by
  obtain ⟨h', g', d', t', o'⟩ := s'
  have e : o' = s.os := ho
  subst e
  exact I.call (g' := g') (t' := t') (d' := d') u hok hg hch
end

/-! ### the judgements -/
/-- an exception: its class, its own dict's address (where it has one), the abstract heap behind it -/
noncomputable abbrev XK := Value → Option Addr → Hp → Prop
noncomputable abbrev St := List (Option V)
noncomputable abbrev VK := V → Hp → Prop
/-- an expression's reading; a test's; an argument list's -/
noncomputable abbrev TE := St → Hp → VK → Prop
noncomputable abbrev TT := St → Hp → (Bool → Hp → Prop) → Prop
noncomputable abbrev TA := St → Hp → (List V → Hp → Prop) → Prop
/-- what is wanted behind a statement -/
structure Ends where
  nx : St → Hp → Prop
  rt : VK
  bk : St → Hp → Prop := fun _ _ => False
  ct : St → Hp → Prop := fun _ _ => False
noncomputable abbrev TS := Ends → St → Hp → Prop

noncomputable def EP (X : Cx) (pins : List (Addr × Obj)) (σ : St) (Q : VK) (u : Value) (s' : Shared) : Prop := ∃ v H', Inv X pins σ H' s' ∧ RelV v u ∧ Q v H'
noncomputable def TP (X : Cx) (pins : List (Addr × Obj)) (σ : St) (Q : Bool → Hp → Prop) (b : Bool) (s' : Shared) : Prop := ∃ H', Inv X pins σ H' s' ∧ Q b H'
noncomputable def AP (X : Cx) (pins : List (Addr × Obj)) (σ : St) (Q : List V → Hp → Prop) (us : List Value) (s' : Shared) : Prop := ∃ vs H', Inv X pins σ H' s' ∧ Vals vs us ∧ Q vs H'
noncomputable def SP (X : Cx) (pins : List (Addr × Obj)) (D : Ends) (f : Flow) (s' : Shared) : Prop :=
  match f with
  | .next => ∃ σ' H', Inv X pins σ' H' s' ∧ D.nx σ' H'
  | .brk => ∃ σ' H', Inv X pins σ' H' s' ∧ D.bk σ' H'
  | .cont => ∃ σ' H', Inv X pins σ' H' s' ∧ D.ct σ' H'
  | .ret u => ∃ v σ' H', Inv X pins σ' H' s' ∧ RelV v u ∧ D.rt v H'

noncomputable def PE (X : Cx) (e : Expr) (t : TE) : Prop :=
  ∀ (pins : List (Addr × Obj)) (s : Shared) (σ : St) (H : Hp) (Q : VK), Inv X pins σ H s → t σ H Q → wpAny (model X.prog X.w) X.A (eval e X.env) (EP X pins σ Q) X.xe s
noncomputable def PT (X : Cx) (e : Expr) (t : TT) : Prop :=
  ∀ (pins : List (Addr × Obj)) (s : Shared) (σ : St) (H : Hp) (Q : Bool → Hp → Prop), Inv X pins σ H s → t σ H Q → wpAny (model X.prog X.w) X.A (isTrue e X.env (eval e X.env)) (TP X pins σ Q) X.xe s
/-- a test whatever its 'whole' is (and, or) -/
noncomputable def PW (X : Cx) (e : Expr) (t : TT) : Prop :=
  ∀ (whole : Sem Value) (pins : List (Addr × Obj)) (s : Shared) (σ : St) (H : Hp) (Q : Bool → Hp → Prop), Inv X pins σ H s → t σ H Q → wpAny (model X.prog X.w) X.A (isTrue e X.env whole) (TP X pins σ Q) X.xe s
theorem PW.pt {X : Cx} {e : Expr} {t : TT} (h : PW X e t) : PT X e t := h _
/-- an argument list (no star), from the left -/
noncomputable def PA (X : Cx) (es : List Expr) (t : TA) : Prop :=
  ∀ (pos : Pos) (pins : List (Addr × Obj)) (s : Shared) (σ : St) (H : Hp) (Q : List V → Hp → Prop), Inv X pins σ H s → t σ H Q → wpAny (model X.prog X.w) X.A (spliced (backTo pos (starEach es X.env))) (AP X pins σ Q) X.xe s
noncomputable def PS (X : Cx) (st : Stmt) (t : TS) : Prop :=
  ∀ (pins : List (Addr × Obj)) (s : Shared) (σ : St) (H : Hp) (D : Ends), Inv X pins σ H s → t D σ H → wpAny (model X.prog X.w) X.A (exec st X.env) (SP X pins D) X.xe s
noncomputable def PSs (X : Cx) (st : List Stmt) (t : TS) : Prop :=
  ∀ (pins : List (Addr × Obj)) (s : Shared) (σ : St) (H : Hp) (D : Ends), Inv X pins σ H s → t D σ H → wpAny (model X.prog X.w) X.A (execs st X.env) (SP X pins D) X.xe s
/-- weaken the end -/
theorem thn {α : Type} {t : Sem α} {Q Q' : α → Shared → Prop} {M : Model} {A : Around} {E : Value → Shared → Prop} {s : Shared} (h : wpAny M A t Q E s) (hQ : ∀ a s, Q a s → Q' a s) : wpAny M A t Q' E s := wpAny_mono h hQ fun _ _ x => x
end L2

namespace L2
open PySem PySem.Spec PyProof.Rows
section
variable {X : Cx}

/-! ### names and constants -/
noncomputable def tVar (i : Nat) : TE := fun σ H Q => ∃ v, σ[i]? = some (some v) ∧ Q v H
noncomputable def tC (v : V) : TE := fun _ H Q => Q v H
theorem pe_var {i : Nat} {x : Str} {pos : Pos} (hN : X.N[i]? = some x) (hv : Vis X.env.scope x) (hd : (x == ("__debug__" : Str)) = false := by decide) (hcd : (x == ("__classdict__" : Str)) = false := by decide) : PE X (.Name x pos) (tVar i) := by
  intro pins s σ H Q I h
  obtain ⟨v, e, h⟩ := h
  obtain ⟨m, hn, hl⟩ := I.loc
  obtain ⟨u, r, l⟩ := hl i x v hN e hv
  have fin : EP X pins σ Q u s := ⟨v, H, I, r, h⟩
  rcases l with ⟨hk, hm⟩ | ⟨hk, c, hc, hcell⟩
  · exact wpAny_Name (wpAny_loadName_local I.ok.kind hk hn hm fin) hd
  · rcases hk with hk | hk
    · exact wpAny_Name (wpAny_loadName_cell I.ok.kind hk hc hcell fin) hd
    · exact wpAny_Name (wpAny_loadName_free I.ok.kind hk hc hcell fin hcd) hd
theorem pe_int {i j pos} : PE X (.Constant (.int i) j pos) (tC (.int i)) := fun _ _ _ H _ I h => wpAny_Constant_int ⟨.int i, H, I.tok _, ⟨_, rfl⟩, h⟩
theorem pe_bl {b j pos} : PE X (.Constant (.bool b) j pos) (tC (.bl b)) := fun _ _ _ H _ I h => Constant_bool ⟨.bl b, H, I, rfl, h⟩
theorem pe_non {j pos} : PE X (.Constant .none j pos) (tC .non) := fun _ _ _ H _ I h => Constant_none ⟨.non, H, I, rfl, h⟩
theorem pe_str {x j pos} : PE X (.Constant (.str x) j pos) (tC (.str x)) := fun _ _ _ H _ I h => Calls.Constant_str ⟨.str x, H, I.tok _, ⟨_, rfl⟩, h⟩

/-- a global name of the def -/
noncomputable def Gl (X : Cx) (x : Str) : Prop := X.env.kindOf x = some .globalImplicit
theorem ld_glob {E : Value → Shared → Prop} {pins : List (Addr × Obj)} {s : Shared} {σ : St} {H : Hp} {x : Str} {u : Value} {pos : Pos} {Q : Value → Shared → Prop} (I : Inv X pins σ H s) (hg : Gl X x) (hm : X.mg x = some u) (h : Q u s)
    (hd : (x == ("__debug__" : Str)) = false := by decide) : wpAny (model X.prog X.w) X.A (eval (.Name x pos) X.env) Q E s :=
  Calls.Name_function_global I.ok.kind hg (Calls.loadGlobal_global (by rw [I.ok.glob]; exact I.mod.glob.keeps I.bk) hm h) hd
theorem ld_blt {E : Value → Shared → Prop} {pins : List (Addr × Obj)} {s : Shared} {σ : St} {H : Hp} {x : Str} {u : Value} {pos : Pos} {Q : Value → Shared → Prop} (I : Inv X pins σ H s) (hg : Gl X x) (hm : X.mg x = none) (hv : bootBuiltins x = some u) (h : Q u s)
    (hn : x ≠ "__name__" := by decide) (hd : (x == ("__debug__" : Str)) = false := by decide) : wpAny (model X.prog X.w) X.A (eval (.Name x pos) X.env) Q E s := by
  obtain ⟨mb, h1, h2⟩ := I.mod.blt
  exact Calls.Name_function_global I.ok.kind hg (Calls.loadGlobal_builtin (by rw [I.ok.glob]; exact I.mod.glob.keeps I.bk) hm (by rw [I.ok.blt]; exact h1.keeps I.bk) ((h2 x hn).trans hv) h) hd
/-- a module's constant, a class, a function, as a value -/
theorem pe_glob {x : Str} {v : V} {u : Value} {pos : Pos} (hg : Gl X x) (hm : X.mg x = some u) (r : RelV v u) (hd : (x == ("__debug__" : Str)) = false := by decide) : PE X (.Name x pos) (tC v) :=
  fun _ _ _ H _ I h => ld_glob I hg hm ⟨v, H, I, r, h⟩ hd
theorem pe_bltn {x : Str} {v : V} {u : Value} {pos : Pos} (hg : Gl X x) (hm : X.mg x = none) (hv : bootBuiltins x = some u) (r : RelV v u) (hn : x ≠ "__name__" := by decide) (hd : (x == ("__debug__" : Str)) = false := by decide) : PE X (.Name x pos) (tC v) :=
  fun _ _ _ H _ I h => ld_blt I hg hm hv ⟨v, H, I, r, h⟩ hn hd

/-! ### arithmetic -/
variable {a b : Expr} {ta tb : TE} {pos : Pos}
/-! ### comparisons -/
/-- a comparison as a value, as a test -/
noncomputable def tB (t : TE) : TT := fun σ H Q => t σ H fun x H1 => ∃ c, x = .bl c ∧ Q c H1
/-- an expression whose value is a bool, as a test -/
theorem pt_val {e : Expr} {t : TE} (h : PE X e t) (he : ∀ whole, isTrue e X.env whole = (do let v ← whole; standAt e.pos; holding [v] (truthy v)) := by intro _; rfl) : PT X e (tB t) := by
  intro pins s σ H Q I hw
  refine isTrue_plain (thn (h pins s σ H _ I hw) fun v s1 ⟨x, H1, I1, r1, q1⟩ => ?_) (he _)
  obtain ⟨d, rfl, q⟩ := q1
  cases r1
  exact wpAny_truthy_bool ⟨H1, I1, q⟩

/-! ### and, or, not -/
variable {tA tB' : TT} {rest : List Expr}
noncomputable def tOr (t u : TT) : TT := fun σ H Q => t σ H fun c H1 => if c = true then Q true H1 else u σ H1 Q
noncomputable def tNot (t : TT) : TT := fun σ H Q => t σ H fun c H1 => Q (!c) H1
theorem pw_or1 (ha : PT X a tA) : PW X (.BoolOp .Or [a] pos) tA := by
  intro wh pins s σ H Q I h
  refine isTrue_or (thn (ha pins s σ H Q I h) fun c s1 e => ?_)
  cases c with
  | false => exact isTrue_or_nil e
  | true => exact e
theorem pw_or (ha : PT X a tA) (hb : PW X (.BoolOp .Or (b :: rest) pos) tB') : PW X (.BoolOp .Or (a :: b :: rest) pos) (tOr tA tB') := by
  intro wh pins s σ H Q I h
  refine isTrue_or (thn (ha pins s σ H _ I h) fun c s1 ⟨H1, I1, q1⟩ => ?_)
  cases c with
  | true => exact ⟨H1, I1, q1⟩
  | false => exact hb wh pins s1 σ H1 Q I1 q1
theorem pt_not (ha : PT X a tA) : PT X (.UnaryOp .Not a pos) (tNot tA) := by
  intro pins s σ H Q I h
  exact isTrue_not (ha pins s σ H (fun c H1 => Q (!c) H1) I h)
end
end L2

namespace L2
open PySem PySem.Spec PyProof.Rows

/-! ### a list, a tuple that is read: tracked, frozen, or an object of the module -/
noncomputable def SqL (K : PySem.W.Frag) (H : Hp) (a : Addr) (xs : List V) : Prop :=
  Rd H a (.lst xs) ∨
    ∃ (o : Obj) (its : Array Value) (n : Nat), K.lookup a = some o ∧ o.cls = .type "list" ∧ o.dict = none ∧ o.data = .seq its n ∧ its.size ≤ sizeLine ∧ Vals xs its.toList
noncomputable def SqT (K : PySem.W.Frag) (H : Hp) (a : Addr) (xs : List V) : Prop :=
  Rd H a (.tup xs) ∨
    ∃ (o : Obj) (its : Array Value) (n : Nat), K.lookup a = some o ∧ o.cls = .type "tuple" ∧ o.data = .seq its n ∧ its.size ≤ sizeLine ∧ Vals xs its.toList
noncomputable def absV : Value → Option V
  | .none => some .non
  | .bool b => some (.bl b)
  | .int i _ => some (.int i)
  | .str x _ => some (.str x)
  | .bytes b _ => some (.byt b)
  | .float b _ => some (.flt b)
  | .ref a => some (.ref a)
  | .type n => some (.ty n)
  | _ => none
theorem RelV.abs {x : V} {u : Value} (r : RelV x u) : absV u = some x := by
  cases x with
  | non => cases r; rfl
  | bl _ => cases r; rfl
  | int _ => obtain ⟨t, rfl⟩ := r; rfl
  | str _ => obtain ⟨t, rfl⟩ := r; rfl
  | byt _ => obtain ⟨t, rfl⟩ := r; rfl
  | flt _ => obtain ⟨t, rfl⟩ := r; rfl
  | ref _ => cases r; rfl
  | ty _ => cases r; rfl
theorem RelV.inj {x y : V} {u : Value} (r : RelV x u) (q : RelV y u) : x = y := Option.some.inj (r.abs.symm.trans q.abs)
theorem Vals.inj : ∀ {xs ys : List V} {us : List Value}, Vals xs us → Vals ys us → xs = ys
  | _, _, _, .nil, .nil => rfl
  | _, _, _, .cons r t, .cons r' t' => by rw [r.inj r', Vals.inj t t']
section
variable {X : Cx} {pins : List (Addr × Obj)} {σ : St} {H : Hp} {s : Shared} {a : Addr} {xs ys : List V}
theorem SqL.of {K : PySem.W.Frag} (h : H a = some (.lst xs)) : SqL K H a xs := .inl (.inl h)
theorem SqT.of {K : PySem.W.Frag} (h : H a = some (.tup xs)) : SqT K H a xs := .inl (.inl h)
theorem Inv.list (I : Inv X pins σ H s) (h : SqL X.K H a xs) : ∃ its : List Value, Vals xs its ∧ PlainL s.heap a its.toArray ∧ xs.length ≤ sizeLine := by
  rcases h with h | ⟨o, its, n, hk, hc, hd, hs, hz, r⟩
  · obtain ⟨z, its, n, r, e⟩ := h.ok I.hok
    exact ⟨its, r, ⟨_, n, e, rfl, rfl, rfl⟩, z⟩
  · refine ⟨its.toList, r, ⟨o, n, I.kIn a o hk, hc, hd, by simpa using hs⟩, ?_⟩
    have e := r.length
    simp only [Array.length_toList] at e
    omega
theorem Inv.tuple (I : Inv X pins σ H s) (h : SqT X.K H a xs) : ∃ its : List Value, Vals xs its ∧ IsTup s.heap a its.toArray ∧ xs.length ≤ sizeLine := by
  rcases h with h | ⟨o, its, n, hk, hc, hs, hz, r⟩
  · obtain ⟨z, its, r, p⟩ := h.ok I.hok
    exact ⟨its, r, p, z⟩
  · refine ⟨its.toList, r, ⟨o, I.kIn a o hk, hc, n, by simpa using hs⟩, ?_⟩
    have e := r.length
    simp only [Array.length_toList] at e
    omega
theorem Inv.list_inj (I : Inv X pins σ H s) (h : SqL X.K H a xs) (h' : SqL X.K H a ys) : xs = ys := by
  obtain ⟨its, r, ⟨o, n, e, _, _, d⟩, _⟩ := I.list h
  obtain ⟨its', r', ⟨o', n', e', _, _, d'⟩, _⟩ := I.list h'
  rw [e] at e'; cases e'
  rw [d] at d'
  injection d' with d1 _
  have : its = its' := by simpa using congrArg Array.toList d1
  subst this
  exact r.inj r'
theorem Inv.tuple_inj (I : Inv X pins σ H s) (h : SqT X.K H a xs) (h' : SqT X.K H a ys) : xs = ys := by
  obtain ⟨its, r, ⟨o, e, _, n, d⟩, _⟩ := I.tuple h
  obtain ⟨its', r', ⟨o', e', _, n', d'⟩, _⟩ := I.tuple h'
  rw [e] at e'; cases e'
  rw [d] at d'
  injection d' with d1 _
  have : its = its' := by simpa using congrArg Array.toList d1
  subst this
  exact r.inj r'
end

/-! ### another wish about exceptions -/
noncomputable abbrev Cx.wish (X : Cx) (E : Value → Shared → Prop) : Cx := { X with xe := E }
/-- no exception leaves -/
noncomputable abbrev Cx.nox (X : Cx) : Cx := X.wish fun _ _ => False
theorem Cx.Ok.wish {X : Cx} (ok : X.Ok) (E : Value → Shared → Prop) : (X.wish E).Ok :=
  ⟨ok.mod, ok.kind, ok.glob, ok.blt, ok.above, ok.inj, ok.has, ok.cab, ok.hd, ok.frames, ok.stk, ok.exf, ok.bs, ok.bsz, ok.noex, ok.exfs, ok.funs, ok.frf⟩
theorem Cx.Ok.unwish {X : Cx} {E : Value → Shared → Prop} (ok : (X.wish E).Ok) : X.Ok :=
  ⟨ok.mod, ok.kind, ok.glob, ok.blt, ok.above, ok.inj, ok.has, ok.cab, ok.hd, ok.frames, ok.stk, ok.exf, ok.bs, ok.bsz, ok.noex, ok.exfs, ok.funs, ok.frf⟩
section
variable {X : Cx} {pins : List (Addr × Obj)} {σ : St} {H : Hp} {s : Shared} {E : Value → Shared → Prop}
theorem Inv.wish (I : Inv X pins σ H s) (E : Value → Shared → Prop) : Inv (X.wish E) pins σ H s := ⟨I.ok.wish E, I.os, I.bare, I.base, I.loc, I.cell, I.free, I.freeC, I.pin, I.hok, I.len⟩
theorem Inv.unwish (I : Inv (X.wish E) pins σ H s) : Inv X pins σ H s := ⟨I.ok.unwish, I.os, I.bare, I.base, I.loc, I.cell, I.free, I.freeC, I.pin, I.hok, I.len⟩
theorem SP.unwish {D : Ends} {f : Flow} {s' : Shared} (h : SP (X.wish E) pins D f s') : SP X pins D f s' := by
  cases f with
  | next => obtain ⟨σ', H', I, q⟩ := h; exact ⟨σ', H', I.unwish, q⟩
  | brk => obtain ⟨σ', H', I, q⟩ := h; exact ⟨σ', H', I.unwish, q⟩
  | cont => obtain ⟨σ', H', I, q⟩ := h; exact ⟨σ', H', I.unwish, q⟩
  | ret u => obtain ⟨v, σ', H', I, r, q⟩ := h; exact ⟨v, σ', H', I.unwish, r, q⟩
theorem PSs.nox {st : List Stmt} {t : TS} (h : PSs X.nox st t) : PSs X st t := fun pins s σ H D I hw =>
  wpAny_mono (h pins s σ H D (I.wish _) hw) (fun _ _ q => q.unwish) fun _ _ z => False.elim z
end

/-! ### blocks and small statements -/
section
variable {X : Cx} {st : Stmt} {rest : List Stmt} {t u : TS} {e : Expr} {te : TE} {pos : Pos}
noncomputable def tNext : TS := fun D σ H => D.nx σ H
noncomputable def tSeq (t u : TS) : TS := fun D σ H => t { D with nx := u D } σ H
theorem pss_nil : PSs X [] tNext := fun _ _ σ H _ I h => wpAny_execs_nil ⟨σ, H, I, h⟩
theorem pss_cons (h1 : PS X st t) (h2 : PSs X rest u) : PSs X (st :: rest) (tSeq t u) := by
  intro pins s σ H D I h
  refine wpAny_execs_cons (thn (h1 pins s σ H { D with nx := u D } I h) fun f s1 q => ?_)
  cases f with
  | next =>
    obtain ⟨σ', H', I', q⟩ := q
    exact h2 pins s1 σ' H' D I' q
  | ret v => exact q
  | brk => exact q
  | cont => exact q
theorem pss_one (h1 : PS X st t) : PSs X [st] t := by
  intro pins s σ H D I h
  refine wpAny_execs_cons (thn (h1 pins s σ H D I h) fun f s1 q => ?_)
  cases f with
  | next => exact wpAny_execs_nil q
  | ret v => exact q
  | brk => exact q
  | cont => exact q
/-- in a def's body nothing is shown -/
theorem Inv.quiet {pins : List (Addr × Obj)} {σ : St} {H : Hp} {s : Shared} (I : Inv X pins σ H s) : interactive X.env = false := by simp [interactive, I.ok.kind]
/-- an expression whose value is dropped -/
noncomputable def tDrop (te : TE) : TS := fun D σ H => te σ H fun _ H1 => D.nx σ H1
theorem ps_expr (he : PE X e te) (hs : swapsWith e none pos.line X.env = pure false := by rfl) : PS X (.Expr e pos) (tDrop te) := by
  intro pins s σ H D I h
  exact wpAny_Expr_any (thn (he pins s σ H _ I h) fun v s1 ⟨x, H1, I1, r1, q1⟩ => ⟨σ, H1, I1, q1⟩) I.quiet hs
noncomputable def tRet (te : TE) : TS := fun D σ H => te σ H D.rt
theorem ps_ret (he : PE X e te) : PS X (.Return (some e) pos) (tRet te) := by
  intro pins s σ H D I h
  exact wpAny_Return_some (thn (he pins s σ H _ I h) fun v s1 ⟨x, H1, I1, r1, q1⟩ => ⟨x, σ, H1, I1, r1, q1⟩)
noncomputable def tIfS (c : TT) (t u : TS) : TS := fun D σ H => c σ H fun b H1 => if b = true then t D σ H1 else u D σ H1
theorem ps_if {c : Expr} {a b : List Stmt} {tc : TT} (hc : PT X c tc) (ha : PSs X a t) (hb : PSs X b u) : PS X (.If c a b pos) (tIfS tc t u) := by
  intro pins s σ H D I h
  refine wpAny_If (thn (hc pins s σ H _ I h) fun d s1 ⟨H1, I1, q1⟩ => ?_)
  cases d with
  | true => exact ha pins s1 σ H1 D I1 q1
  | false => exact hb pins s1 σ H1 D I1 q1
/-- code that the proof never comes to -/
noncomputable def tNever : TS := fun _ _ _ => False
theorem ps_never : PS X st tNever := fun _ _ _ _ _ _ h => h.elim
end

/-! ### targets -/
noncomputable abbrev TG := V → St → Hp → (St → Hp → Prop) → Prop
noncomputable abbrev TGs := List V → St → Hp → (St → Hp → Prop) → Prop
noncomputable def PG (X : Cx) (target : Expr) (t : TG) : Prop :=
  ∀ (pins : List (Addr × Obj)) (s : Shared) (σ : St) (H : Hp) (v : V) (u : Value) (Q : St → Hp → Prop), Inv X pins σ H s → RelV v u → t v σ H Q →
    wpAny (model X.prog X.w) X.A (assign target X.env u) (fun _ s' => ∃ σ' H', Inv X pins σ' H' s' ∧ Q σ' H') X.xe s
/-- several targets, one after another -/
noncomputable def PGs (X : Cx) (ts : List Expr) (t : TGs) : Prop :=
  ∀ (pins : List (Addr × Obj)) (s : Shared) (σ : St) (H : Hp) (vs : List V) (us : List Value) (Q : St → Hp → Prop), Inv X pins σ H s → Vals vs us → t vs σ H Q →
    wpAny (model X.prog X.w) X.A (assignInOrder ((assignEach ts X.env).map (·.2)) us) (fun _ s' => ∃ σ' H', Inv X pins σ' H' s' ∧ Q σ' H') X.xe s
/-- o[i] = v, by values -/
noncomputable abbrev TSet := V → V → V → Hp → (Hp → Prop) → Prop
noncomputable def PSet (X : Cx) (t : TSet) : Prop :=
  ∀ (pins : List (Addr × Obj)) (s : Shared) (σ : St) (H : Hp) (o i v : V) (ov iv u : Value) (Q : Hp → Prop), Inv X pins σ H s → RelV o ov → RelV i iv → RelV v u → t o i v H Q →
    wpAny (model X.prog X.w) X.A (setItem ov iv u) (fun _ s' => ∃ H', Inv X pins σ H' s' ∧ Q H') X.xe s
section
variable {X : Cx} {pos : Pos}
noncomputable def gName (i : Nat) : TG := fun v σ H Q => Q (σ.set i (some v)) H
theorem pg_name {i : Nat} {x : Str} (hN : X.N.Nodup) (hi : X.N[i]? = some x) (hx : Loc X.env.scope x) (hf : X.fn x = true ∨ X.env.scope.names.lookup x = some .local := by first | exact .inl rfl | exact .inr rfl | assumption) : PG X (.Name x pos) (gName i) := by
  intro pins s σ H v u Q I r h
  exact wpAny_assign_Name (store_ok I hN hi hx r (fun s' I' => ⟨_, H, I', h⟩) hf)
noncomputable def gNil : TGs := fun vs σ H Q => vs = [] ∧ Q σ H
noncomputable def gCons (t : TG) (u : TGs) : TGs := fun vs σ H Q => ∃ v r, vs = v :: r ∧ t v σ H fun σ' H' => u r σ' H' Q
theorem pgs_nil : PGs X [] gNil := by
  intro pins s σ H vs us Q I r h
  obtain ⟨e, h⟩ := h
  subst e
  cases r
  exact assignInOrder_nil ⟨σ, H, I, h⟩
theorem pgs_cons {e : Expr} {es : List Expr} {t : TG} {u : TGs} (h1 : PG X e t) (h2 : PGs X es u)
    (hs : (assignEach (e :: es) X.env).map (·.2) = assign e X.env :: (assignEach es X.env).map (·.2) := by rfl) : PGs X (e :: es) (gCons t u) := by
  intro pins s σ H vs us Q I r h
  obtain ⟨v, vr, e1, h⟩ := h
  subst e1
  cases r with
  | cons r rr =>
    rw [hs]
    refine assignInOrder_cons (thn (h1 pins s σ H _ _ _ I r h) fun _ s1 ⟨σ1, H1, I1, q1⟩ => ?_)
    exact h2 pins s1 σ1 H1 _ _ Q I1 rr q1
/-- (a, b, ..) = a tuple of that length -/
noncomputable def gTup (K : PySem.W.Frag) (n : Nat) (t : TGs) : TG := fun v σ H Q => ∃ a xs, v = .ref a ∧ SqT K H a xs ∧ xs.length = n ∧ t xs σ H Q
theorem pg_tup {es : List Expr} {k : Nat} {t : TGs} {n : Nat} (hc : X.calm = true) (h : PGs X es t)
    (hn : (assignEach es X.env).length = n := by rfl) (hst : (assignEach es X.env).findIdx? (·.1) = none := by rfl) : PG X (.Tuple es k pos) (gTup X.K n t) := by
  intro pins s σ H v u Q I r hw
  obtain ⟨a, xs, e1, hq, hl, hw⟩ := hw
  subst e1
  cases r
  obtain ⟨its, rv, ht, hz⟩ := I.tuple hq
  refine assign_Tuple_tuple (I.ok.hd hc) ht (by simp [hn, ← hl, rv.length]) hst fun h' hx => ?_
  have I1 : Inv X pins σ H { s with heap := h' } := I.kept (t' := s.toks) fun b o e => hx b o (Nat.ne_of_lt (Heap.lt_size e)) e
  exact h pins _ σ H xs _ Q I1 (by simpa using rv) hw
/-- o[i] = .. -/
noncomputable def gSub (to ti : TE) (t : TSet) : TG := fun v σ H Q => to σ H fun o H1 => ti σ H1 fun i H2 => t o i v H2 fun H3 => Q σ H3
theorem pg_sub {o i : Expr} {to ti : TE} {t : TSet} (ho : PE X o to) (hi : PE X i ti) (hs : PSet X t)
    (ha : ∀ v, assign (.Subscript o i pos) X.env v = (do
      let ov ← holding [v] (eval o X.env)
      let iv ← holding [v, ov] (eval i X.env)
      standAt pos
      holding [v, ov, iv] (setItem ov iv v)
      release [v, ov, iv] []) := by intro _; rfl) : PG X (.Subscript o i pos) (gSub to ti t) := by
  intro pins s σ H v u Q I r h
  rw [ha]
  refine wpAny_bind (wpAny_holding (thn (ho pins s σ H _ I h) fun ov s1 ⟨x, H1, I1, r1, q1⟩ => ?_))
  refine wpAny_bind (wpAny_holding (thn (hi pins s1 σ H1 _ I1 q1) fun iv s2 ⟨y, H2, I2, r2, q2⟩ => ?_))
  refine wpAny_bind (wpAny_standAt (wpAny_bind (wpAny_holding (thn (hs pins s2 σ H2 x y v ov iv u _ I2 r1 r2 r q2) fun _ s3 ⟨H3, I3, q3⟩ => ?_))))
  exact wpAny_release ⟨σ, H3, I3, q3⟩
/-- target = value -/
noncomputable def tAsg (te : TE) (g : TG) : TS := fun D σ H => te σ H fun x H1 => g x σ H1 D.nx
theorem ps_asg {tg e : Expr} {te : TE} {g : TG} (he : PE X e te) (hg : PG X tg g) (hs : swapsWithSole [tg] e pos.line X.env = pure false := by rfl) (hw : swappedStores [tg] e X.env = pure none := by rfl)
    (h1 : (assignEach [tg] X.env).map (·.2) = [assign tg X.env] := by rfl) : PS X (.Assign [tg] e pos) (tAsg te g) := by
  intro pins s σ H D I h
  refine wpAny_Assign_stores (thn (he pins s σ H _ I h) fun v s1 ⟨x, H1, I1, r1, q1⟩ => ?_) hs hw
  rw [h1]
  exact thn (hg pins s1 σ H1 x v _ I1 r1 q1) fun _ s2 q => q
/-- name = value -/
theorem ps_set {i : Nat} {x : Str} {e : Expr} {te : TE} {pos' : Pos} (hN : X.N.Nodup) (hi : X.N[i]? = some x) (hx : Loc X.env.scope x) (he : PE X e te) (hs : swapsWith e (some (.Name x pos')) pos.line X.env = pure false := by rfl) (hf : X.fn x = true ∨ X.env.scope.names.lookup x = some .local := by first | exact .inl rfl | exact .inr rfl | assumption) :
    PS X (.Assign [.Name x pos'] e pos) (tAsg te (gName i)) := by
  intro pins s σ H D I h
  refine wpAny_Assign_Name (thn (he pins s σ H _ I h) fun v s1 ⟨y, H1, I1, r1, q1⟩ => ?_) hs
  exact store_ok I1 hN hi hx r1 (fun s2 I2 => ⟨_, H1, I2, q1⟩) hf
end

/-! ### while -/
section
variable {X : Cx} {pos : Pos}
end

/-! ### what a loop or a comprehension walks -/
/-- at turn i: it yields x (the heap may grow), or it stops -/
structure It where
  go : Nat → Hp → Prop
  yld : Nat → Hp → V → Hp → Prop
  stop : Nat → Hp → Prop
/-- the iterator's own objects may turn: they are not the frame's, not pinned, younger than the entry (or a comprehension's own) -/
noncomputable def FpOk (X : Cx) (pins : List (Addr × Obj)) (H : Hp) (b : Addr) : Prop :=
  H b = none ∧ b ≠ X.env.locals ∧ b ∉ X.fs ∧ (b ∈ X.ex ∨ X.s₀.heap.objs.size ≤ b) ∧ (∀ x c, X.env.cells.lookup x = some c → c ≠ b) ∧ ∀ p ∈ X.pn ++ pins, p.1 ≠ b
theorem Inv.fpOk {X : Cx} {pins : List (Addr × Obj)} {σ : St} {H H' : Hp} {s : Shared} {b : Addr} (I : Inv X pins σ H s) (hb : s.heap.objs.size ≤ b) (hn : H' b = none) : FpOk X pins H' b := by
  refine ⟨hn, Nat.ne_of_gt (Nat.lt_of_lt_of_le I.lt hb), I.nofs hb, .inr (Nat.le_trans I.sz hb), fun x c e z => ?_, fun p hp z => ?_⟩
  · obtain ⟨v, q⟩ := I.cell x c e
    exact absurd (Nat.lt_of_lt_of_le q.lt (by rw [z]; exact hb)) (Nat.lt_irrefl _)
  · exact absurd (Nat.lt_of_lt_of_le (Heap.lt_size (I.pin p hp).1) (by rw [z]; exact hb)) (Nat.lt_irrefl _)
structure Turn (P : Program) (w : World) (K : PySem.W.Frag) (tg : Expr) (J : It) (fp : List Addr) (it : Addr) (tn : Nat → Heap → Prop) : Prop where
  mem : it ∈ fp
  obj : ∀ i h, tn i h → ∀ b ∈ fp, ∃ o, h.get? b = some o ∧ ∀ v, o.data ≠ .cell v
  keep : ∀ i h h', tn i h → (∀ b ∈ fp, ∀ o, h.get? b = some o → h'.get? b = some o) → tn i h'
  item : ∀ (X : Cx), X.prog = P → X.w = w → X.K = K → X.calm = true → ∀ (i : Nat) (pins : List (Addr × Obj)) (s : Shared) (σ : St) (H : Hp) (E : Value → Shared → Prop), Inv X pins σ H s → (∀ b ∈ fp, FpOk X pins H b) → tn i s.heap → J.go i H →
    wpAny (model P w) X.A (pyNext (.ref it)) (fun r s1 => ∃ u, r = some u ∧
      wpAny (model P w) X.A (letOwnedTupleGo tg (.ref it) u) (fun _ s2 => ∃ x H', Inv X pins σ H' s2 ∧ RelV x u ∧ J.yld i H x H' ∧ tn (i + 1) s2.heap ∧ ∀ b ∈ fp, H' b = none) E s1) E s
  done : ∀ (X : Cx), X.prog = P → X.w = w → X.K = K → X.calm = true → ∀ (i : Nat) (pins : List (Addr × Obj)) (s : Shared) (σ : St) (H : Hp) (E : Value → Shared → Prop), Inv X pins σ H s → (∀ b ∈ fp, FpOk X pins H b) → tn i s.heap → J.stop i H →
    wpAny (model P w) X.A (pyNext (.ref it)) (fun r s1 => r = none ∧ Inv X pins σ H s1) E s
  self : ∀ (A : Around) (i : Nat) (s : Shared) (Q : Value → Shared → Prop) (E : Value → Shared → Prop), tn i s.heap → Q (.ref it) s → wpAny (model P w) A (pyIter (.ref it)) Q E s
noncomputable abbrev TI := St → Hp → (It → Hp → Prop) → Prop
/-- an iterator has come -/
noncomputable def PIE (X : Cx) (pins : List (Addr × Obj)) (σ : St) (tg : Expr) (R : It → Hp → Prop) (itv : Value) (s2 : Shared) : Prop :=
  ∃ (it : Addr) (fp : List Addr) (tn : Nat → Heap → Prop) (J : It) (H' : Hp), itv = .ref it ∧ Inv X pins σ H' s2 ∧ Turn X.prog X.w X.K tg J fp it tn ∧ tn 0 s2.heap ∧ (∀ b ∈ fp, FpOk X pins H' b) ∧ R J H'
noncomputable def PI (X : Cx) (tg iter : Expr) (wi : TI) : Prop :=
  ∀ (pins : List (Addr × Obj)) (s : Shared) (σ : St) (H : Hp) (R : It → Hp → Prop), Inv X pins σ H s → wi σ H R →
    wpAny (model X.prog X.w) X.A (eval iter X.env) (fun v s1 => wpAny (model X.prog X.w) X.A (pyIter v) (PIE X pins σ tg R) X.xe s1) X.xe s

/-- the step ahead of the store is nothing for an iterator that keeps no tuple -/
theorem go_of {M : Model} {A : Around} {E : Value → Shared → Prop} {s : Shared} {tg : Expr} {it : Addr} {u : Value} {o : Obj} {n : String} {vs : Array Value} {Q : Unit → Shared → Prop} (ho : s.heap.get? it = some o) (hc : o.cls = .type n) (hd : o.data = .fields vs)
    (hn : ["enumerate", "zip", "dict_itemiterator", "dict_reverseitemiterator", "odict_iterator", "itertools.zip_longest", "itertools.pairwise"].contains n = false) (hQ : Q () s) : wpAny M A (letOwnedTupleGo tg (.ref it) u) Q E s := by
  unfold letOwnedTupleGo
  cases tg <;> first
    | exact wpAny_pure hQ
    | (cases u <;> first
        | exact wpAny_pure hQ
        | (refine wpAny_bind (wpAny_load ho ?_)
           rw [hc, hd]
           show wpAny M A (if (["enumerate", "zip", "dict_itemiterator", "dict_reverseitemiterator", "odict_iterator", "itertools.zip_longest", "itertools.pairwise"].contains n && vs[0]? == some (rawInt _)) = true then _ else _) Q E s
           rw [if_neg (by intro h; rw [hn, Bool.false_and] at h; cases h)]
           exact wpAny_pure hQ))

/-- the list at a, as it stands at each turn (a loop may append to it) -/
noncomputable def Itl (K : PySem.W.Frag) (a : Addr) : It :=
  ⟨fun i H => ∃ xs x, SqL K H a xs ∧ xs[i]? = some x, fun i H x H' => H' = H ∧ ∀ xs, SqL K H a xs → xs[i]? = some x, fun i H => ∃ xs, SqL K H a xs ∧ xs.length ≤ i⟩
noncomputable def Itt (K : PySem.W.Frag) (a : Addr) : It :=
  ⟨fun i H => ∃ xs x, SqT K H a xs ∧ xs[i]? = some x, fun i H x H' => H' = H ∧ ∀ xs, SqT K H a xs → xs[i]? = some x, fun i H => ∃ xs, SqT K H a xs ∧ xs.length ≤ i⟩
/-- lo, lo + 1, .. (n of them) -/
noncomputable def Itr (lo : Int) (n : Nat) : It := ⟨fun i _ => i < n, fun i H x H' => H' = H ∧ x = .int (lo + i), fun i _ => n ≤ i⟩
theorem turn_list {P : Program} {w : World} {K : PySem.W.Frag} {tg : Expr} (a it : Addr) : Turn P w K tg (Itl K a) [it] it (fun i h => h.IsListIter it a i) where
  mem := by simp
  obj := fun i h st b hb => by
    have e : b = it := by simpa using hb
    subst e
    obtain ⟨o, e, c, d⟩ := st
    exact ⟨o, e, fun v z => by rw [d] at z; cases z⟩
  keep := fun i h h' st k => st.at fun o e => k it (by simp) o e
  item := by
    intro X hP hw hK hc i pins s σ H E I hf st hg
    subst hP hw hK
    obtain ⟨xs, x, hq, hx⟩ := hg
    obtain ⟨its, rv, p, hz⟩ := I.list hq
    obtain ⟨u, hu, ru⟩ := rv.get hx
    obtain ⟨f0, f1, f2, f3, f4, f5⟩ := hf it (by simp)
    refine wpAny_pyNext_list_item st p.isList (x := u) (by simpa using hu) fun h' st' sb => ?_
    have I1 : Inv X pins σ H { s with heap := h' } := I.turned (t' := s.toks) (fun b o hb e => (sb.2 b hb).trans e) f0 f1 f3 f4 f5
    obtain ⟨o, e, c, d⟩ := id st'
    exact ⟨u, rfl, go_of (s := { s with heap := h' }) e c d (by decide) ⟨x, H, I1, ru, ⟨rfl, fun ys hy => by rw [I.list_inj hy hq]; exact hx⟩, st', fun b hb => (hf b hb).1⟩⟩
  done := by
    intro X hP hw hK hc i pins s σ H E I hf st hg
    subst hP hw hK
    obtain ⟨xs, hq, hx⟩ := hg
    obtain ⟨its, rv, p, hz⟩ := I.list hq
    obtain ⟨f0, f1, f2, f3, f4, f5⟩ := hf it (by simp)
    have hl := rv.length
    exact wpAny_pyNext_list_end (I.ok.hd hc) st p.isList (by simp; omega) fun h' eb => ⟨rfl, I.turned (t' := s.toks) (fun b o hb e => eb b o hb e) f0 f1 f3 f4 f5⟩
  self := fun _ _ _ _ _ st h => wpAny_pyIter_listiter st h
theorem turn_tuple {P : Program} {w : World} {K : PySem.W.Frag} {tg : Expr} (a it : Addr) : Turn P w K tg (Itt K a) [it] it (fun i h => h.IsTupleIter it a i) where
  mem := by simp
  obj := fun i h st b hb => by
    have e : b = it := by simpa using hb
    subst e
    obtain ⟨o, e, c, d⟩ := st
    exact ⟨o, e, fun v z => by rw [d] at z; cases z⟩
  keep := fun i h h' st k => st.at fun o e => k it (by simp) o e
  item := by
    intro X hP hw hK hc i pins s σ H E I hf st hg
    subst hP hw hK
    obtain ⟨xs, x, hq, hx⟩ := hg
    obtain ⟨its, rv, p, hz⟩ := I.tuple hq
    obtain ⟨u, hu, ru⟩ := rv.get hx
    obtain ⟨f0, f1, f2, f3, f4, f5⟩ := hf it (by simp)
    refine wpAny_pyNext_tuple_item st (show s.heap.IsTuple a its.toArray from p) (x := u) (by simpa using hu) fun h' st' sb => ?_
    have I1 : Inv X pins σ H { s with heap := h' } := I.turned (t' := s.toks) (fun b o hb e => (sb.2 b hb).trans e) f0 f1 f3 f4 f5
    obtain ⟨o, e, c, d⟩ := id st'
    exact ⟨u, rfl, go_of (s := { s with heap := h' }) e c d (by decide) ⟨x, H, I1, ru, ⟨rfl, fun ys hy => by rw [I.tuple_inj hy hq]; exact hx⟩, st', fun b hb => (hf b hb).1⟩⟩
  done := by
    intro X hP hw hK hc i pins s σ H E I hf st hg
    subst hP hw hK
    obtain ⟨xs, hq, hx⟩ := hg
    obtain ⟨its, rv, p, hz⟩ := I.tuple hq
    obtain ⟨f0, f1, f2, f3, f4, f5⟩ := hf it (by simp)
    have hl := rv.length
    exact wpAny_pyNext_tuple_end (I.ok.hd hc) st (show s.heap.IsTuple a its.toArray from p) (by simp; omega) fun h' eb => ⟨rfl, I.turned (t' := s.toks) (fun b o hb e => eb b o hb e) f0 f1 f3 f4 f5⟩
  self := fun _ _ _ _ _ st h => wpAny_pyIter_tupleiter st h
theorem turn_range {P : Program} {w : World} {K : PySem.W.Frag} {tg : Expr} (it : Addr) (lo : Int) (n : Nat) : Turn P w K tg (Itr lo n) [it] it (fun i h => IsRangeIter h it (lo + (i : Nat) * 1) ((n : Int) - (i : Nat)) 1) where
  mem := by simp
  obj := fun i h st b hb => by
    have e : b = it := by simpa using hb
    subst e
    exact ⟨_, st, fun v z => by
      have z' : Data.fields _ = Data.cell v := z
      cases z'⟩
  keep := fun i h h' st k => k it (by simp) _ st
  item := by
    intro X hP hw hK hc i pins s σ H E I hf st hg
    subst hP hw hK
    obtain ⟨f0, f1, f2, f3, f4, f5⟩ := hf it (by simp)
    have W := Walks.range (prog := X.prog) (w := X.w) (I.ok.hd hc) it lo 1 n
    refine W.item i s _ _ hg st fun v h' tk hv st' kk => ?_
    obtain ⟨t, rfl⟩ := hv
    have I1 : Inv X pins σ H { s with heap := h', toks := tk } := I.turned (fun b o hb e => kk b o (by simpa using hb) e) f0 f1 f3 f4 f5
    refine ⟨_, rfl, go_of (s := { s with heap := h', toks := tk }) (n := "range_iterator") st' rfl rfl (by decide) ⟨.int (lo + i), H, I1, ⟨t, ?_⟩, ⟨rfl, rfl⟩, st', fun b hb => (hf b hb).1⟩⟩
    rw [Int.mul_one]
  done := by
    intro X hP hw hK hc i pins s σ H E I hf st hg
    subst hP hw hK
    obtain ⟨f0, f1, f2, f3, f4, f5⟩ := hf it (by simp)
    exact wpAny_pyNext_range_end (I.ok.hd hc) st (by have : n ≤ i := hg; omega) fun h' eb => ⟨rfl, I.turned (t' := s.toks) (fun b o hb e => eb b o hb e) f0 f1 f3 f4 f5⟩
  self := fun _ _ _ _ _ st h => wpAny_pyIter_rangeiter st h
end L2

namespace L2
open PySem PySem.Spec PyProof.Rows
section
variable {X : Cx} {tg : Expr}
noncomputable def iList (K : PySem.W.Frag) (tl : TE) : TI := fun σ H R => tl σ H fun x H1 => ∃ a, x = .ref a ∧ (∃ xs, SqL K H1 a xs) ∧ R (Itl K a) H1
noncomputable def iTup (K : PySem.W.Frag) (tl : TE) : TI := fun σ H R => tl σ H fun x H1 => ∃ a, x = .ref a ∧ (∃ xs, SqT K H1 a xs) ∧ R (Itt K a) H1
theorem pi_list {l : Expr} {tl : TE} (hl : PE X l tl) : PI X tg l (iList X.K tl) := by
  intro pins s σ H R I h
  refine thn (hl pins s σ H _ I h) fun v s1 ⟨x, H1, I1, r1, q1⟩ => ?_
  obtain ⟨a, e, ⟨xs, hq⟩, q⟩ := q1
  subst e
  cases r1
  obtain ⟨its, rv, p, hz⟩ := I1.list hq
  refine wpAny_pyIter_list p.isList ?_
  refine ⟨s1.heap.objs.size, [s1.heap.objs.size], _, _, H1, rfl, I1.kept (t' := s1.toks) fun b o e => Heap.get?_push_of_some _ e, turn_list a _, ⟨_, Heap.get?_push_size _ rfl, rfl, rfl⟩, fun b hb => ?_, q⟩
  have e : b = s1.heap.objs.size := by simpa using hb
  subst e
  exact I1.fpOk (Nat.le_refl _) (I1.hok.fresh (Nat.le_refl _))
theorem pi_tup {l : Expr} {tl : TE} (hl : PE X l tl) : PI X tg l (iTup X.K tl) := by
  intro pins s σ H R I h
  refine thn (hl pins s σ H _ I h) fun v s1 ⟨x, H1, I1, r1, q1⟩ => ?_
  obtain ⟨a, e, ⟨xs, hq⟩, q⟩ := q1
  subst e
  cases r1
  obtain ⟨its, rv, p, hz⟩ := I1.tuple hq
  refine wpAny_pyIter_tuple (show s1.heap.IsTuple a its.toArray from p) ?_
  refine ⟨s1.heap.objs.size, [s1.heap.objs.size], _, _, H1, rfl, I1.kept (t' := s1.toks) fun b o e => Heap.get?_push_of_some _ e, turn_tuple a _, ⟨_, Heap.get?_push_size _ rfl, rfl, rfl⟩, fun b hb => ?_, q⟩
  have e : b = s1.heap.objs.size := by simpa using hb
  subst e
  exact I1.fpOk (Nat.le_refl _) (I1.hok.fresh (Nat.le_refl _))
/-- a range object just made, walked -/
theorem range_it {pins : List (Addr × Obj)} {σ : St} {H : Hp} {s : Shared} {R : It → Hp → Prop} {E : Value → Shared → Prop} {lo hi : Int} {t u v : Tok} {tk : Nat} (I : Inv X pins σ H s) (h1 : -(2 ^ 62) ≤ lo) (h2 : lo < 2 ^ 62) (h3 : -(2 ^ 62) ≤ hi) (h4 : hi < 2 ^ 62)
    (q : R (Itr lo (hi - lo).toNat) H) : wpAny (model X.prog X.w) X.A (pyIter (.ref s.heap.objs.size)) (PIE X pins σ tg R) E { s with heap := s.heap.push { cls := .type "range", data := .fields #[.int lo t, .int hi u, .int 1 v] }, toks := tk } := by
  refine wpAny_pyIter_range (IsRange.new ..) (small_one h1 h2 h3 h4) ?_
  have I1 : Inv X pins σ H { s with heap := s.heap.push { cls := .type "range", data := .fields #[.int lo t, .int hi u, .int 1 v] }, toks := tk } := I.kept fun b o e => Heap.get?_push_of_some _ e
  refine ⟨(s.heap.push { cls := .type "range", data := .fields #[.int lo t, .int hi u, .int 1 v] }).objs.size, [(s.heap.push { cls := .type "range", data := .fields #[.int lo t, .int hi u, .int 1 v] }).objs.size], _, _, H, rfl,
    I1.kept (t' := tk) fun b o e => Heap.get?_push_of_some _ e, turn_range _ lo (hi - lo).toNat, ?_, fun b hb => ?_, q⟩
  · have e1 : lo + ((0 : Nat) : Int) * 1 = lo := by simp
    have e2 : (((hi - lo).toNat : Nat) : Int) - ((0 : Nat) : Int) = Builtin.Range.rangeSize lo hi 1 := by rw [rangeSize_one]; split <;> omega
    show IsRangeIter _ _ (lo + ((0 : Nat) : Int) * 1) ((((hi - lo).toNat : Nat) : Int) - ((0 : Nat) : Int)) 1
    rw [e1, e2]
    exact Heap.get?_push_size _ rfl
  · have e : b = (s.heap.push { cls := .type "range", data := .fields #[.int lo t, .int hi u, .int 1 v] }).objs.size := by simpa using hb
    subst e
    exact I1.fpOk (Nat.le_refl _) (I1.hok.fresh (Nat.le_refl _))
noncomputable def iRng1 (ta : TA) : TI := fun σ H R => ta σ H fun vs H1 => ∃ j : Int, vs = [.int j] ∧ -(2 ^ 62) ≤ j ∧ j < 2 ^ 62 ∧ R (Itr 0 j.toNat) H1
noncomputable def iRng2 (ta : TA) : TI := fun σ H R => ta σ H fun vs H1 => ∃ i j : Int, vs = [.int i, .int j] ∧ (-(2 ^ 62) ≤ i ∧ i < 2 ^ 62 ∧ -(2 ^ 62) ≤ j ∧ j < 2 ^ 62) ∧ R (Itr i (j - i).toNat) H1
theorem pi_range1 {a : Expr} {ta : TA} {p pos : Pos} (hg : Gl X "range") (hm : X.mg "range" = none) (ha : PA X [a] ta) (hs : starEach [a] X.env = [(false, eval a X.env)] := by rfl) : PI X tg (.Call (.Name "range" p) [a] [] pos) (iRng1 ta) := by
  intro pins s σ H R I h
  refine Call_ (ld_blt I hg hm boot_range (PyProof.Rows.callWith_type1 (thn (ha pos pins s σ H _ I h) fun us s1 ⟨vs, H1, I1, r1, q1⟩ => ?_) hs rfl))
  obtain ⟨j, e, q1, q2, q⟩ := q1
  subst e
  cases r1 with
  | cons r rr =>
    cases rr
    obtain ⟨t, rfl⟩ := r
    exact call_range_1 (range_it I1 (by omega) (by omega) q1 q2 (by simpa using q))
theorem pi_range2 {a b : Expr} {ta : TA} {p pos : Pos} (hg : Gl X "range") (hm : X.mg "range" = none) (ha : PA X [a, b] ta) (hs : starEach [a, b] X.env = [(false, eval a X.env), (false, eval b X.env)] := by rfl) (hs2 : starEach [b] X.env = [(false, eval b X.env)] := by rfl) :
    PI X tg (.Call (.Name "range" p) [a, b] [] pos) (iRng2 ta) := by
  intro pins s σ H R I h
  refine Call_ (ld_blt I hg hm boot_range (PyProof.Rows.callWith_type1 (thn (ha pos pins s σ H _ I h) fun us s1 ⟨vs, H1, I1, r1, q1⟩ => ?_) (by rw [hs, hs2]) (by rw [hs2]; rfl)))
  obtain ⟨i, j, e, ⟨q1, q2, q3, q4⟩, q⟩ := q1
  subst e
  cases r1 with
  | cons r rr =>
    cases rr with
    | cons r' rr =>
      cases rr
      obtain ⟨t, rfl⟩ := r
      obtain ⟨t', rfl⟩ := r'
      exact call_range_2 (range_it I1 q1 q2 q3 q4 q)

/-! ### for -/
/-- W: the invariant by the turn and a measure; N: what the body is to reach -/
noncomputable def tFor (wi : TI) (g : TG) (tb : TS) : TS := fun D σ H => wi σ H fun J H1 => ∃ W : Nat → Nat → St → Hp → Prop, (∃ m, W 0 m σ H1) ∧ ∀ i m σ H, W i m σ H →
  (J.stop i H ∧ D.nx σ H) ∨ (J.go i H ∧ ∃ N : St → Hp → Prop, (∀ σ' H', N σ' H' → ∃ m', m' < m ∧ W (i + 1) m' σ' H') ∧ ∀ x H', J.yld i H x H' → g x σ H' fun σ2 H2 => tb { D with nx := N, ct := N, bk := D.nx } σ2 H2)
/-- the records at fp as they stand -/
noncomputable def pinsAt (fp : List Addr) (h : Heap) : List (Addr × Obj) := fp.filterMap fun b => (h.get? b).map fun o => (b, o)
theorem mem_pinsAt {fp : List Addr} {h : Heap} {b : Addr} {o : Obj} (hb : b ∈ fp) (e : h.get? b = some o) : (b, o) ∈ pinsAt fp h := List.mem_filterMap.mpr ⟨b, hb, by rw [e]; rfl⟩
theorem of_pinsAt {fp : List Addr} {h : Heap} {p : Addr × Obj} (hp : p ∈ pinsAt fp h) : p.1 ∈ fp ∧ h.get? p.1 = some p.2 := by
  obtain ⟨b, hb, e⟩ := List.mem_filterMap.mp hp
  cases q : h.get? b with
  | none => rw [q] at e; cases e
  | some o =>
    rw [q] at e
    have e' : (b, o) = p := Option.some.inj e
    subst e'
    exact ⟨hb, q⟩
theorem Inv.pinned {pins : List (Addr × Obj)} {σ : St} {H : Hp} {s : Shared} {fp : List Addr} (I : Inv X pins σ H s) (hf : ∀ b ∈ fp, FpOk X pins H b) (ho : ∀ b ∈ fp, ∃ o, s.heap.get? b = some o ∧ ∀ v, o.data ≠ .cell v) : Inv X (pins ++ pinsAt fp s.heap) σ H s :=
  I.pins_of fun p hp => (List.mem_append.mp hp).elim (fun z => I.pin p (List.mem_append_right _ z)) fun z => by
    obtain ⟨hb, e⟩ := of_pinsAt z
    obtain ⟨f0, f1, f2, _⟩ := hf p.1 hb
    obtain ⟨o, e', d⟩ := ho p.1 hb
    rw [e] at e'; cases e'
    exact ⟨e, f0, f1, f2, d⟩
theorem Inv.unpinned {pins pl : List (Addr × Obj)} {σ : St} {H : Hp} {s : Shared} (I : Inv X (pins ++ pl) σ H s) : Inv X pins σ H s := I.pins_of fun p hp => I.pin p (List.mem_append_right _ (List.mem_append_left _ hp))
theorem ps_for {iter : Expr} {body : List Stmt} {wi : TI} {g : TG} {tb : TS} {pos : Pos} (hp : PassesOwn (model X.prog X.w) X.A X.env X.xe) (hc : X.calm = true) (hi : PI X tg iter wi) (hg : PG X tg g) (hb : PSs X body tb)
    (hs : ∀ x, foldedSetIterable iter X.env x = pure x := by intro _; rfl) : PS X (.For tg iter body [] pos) (tFor wi g tb) := by
  intro pins s σ H D I h
  refine wpAny_For (thn (hi pins s σ H _ I h) fun v s1 h1 => thn h1 fun itv s2 h2 => ?_) hs
  obtain ⟨it, fp, tn, J, H2, e, I2, T, st2, f2, W, ⟨m0, w0⟩, turn⟩ := h2
  subst e
  -- what stays true of the iterator's objects through the loop
  have stat : ∀ {H' : Hp}, (∀ b ∈ fp, H' b = none) → ∀ b ∈ fp, FpOk X pins H' b := fun hn b hb => ⟨hn b hb, (f2 b hb).2⟩
  refine codeAny_forLoop_any (fun n s' => ∃ i σ' H', Inv X pins σ' H' s' ∧ tn i s'.heap ∧ (∀ b ∈ fp, H' b = none) ∧ W i n σ' H') ?_ m0 ⟨0, σ, H2, I2, st2, fun b hb => (f2 b hb).1, w0⟩
  rintro n s3 ⟨i, σ3, H3, I3, st3, fr3, w3⟩
  rcases turn i n σ3 H3 w3 with ⟨stop, qn⟩ | ⟨go, N, hN, step⟩
  · refine wpAny_passesOwn hp (thn (T.done X rfl rfl rfl hc i pins s3 σ3 H3 X.xe I3 (stat fr3) st3 stop) fun r s4 ⟨hr, I4⟩ => ?_)
    subst hr
    exact wpAny_execs_nil ⟨σ3, H3, I4, qn⟩
  · refine wpAny_passesOwn hp (thn (T.item X rfl rfl rfl hc i pins s3 σ3 H3 X.xe I3 (stat fr3) st3 go) fun r s4 ⟨u, hr, h4⟩ => ?_)
    subst hr
    refine wpAny_passesOwn hp (thn h4 fun _ s5 ⟨x, H5, I5, r5, y5, st5, fr5⟩ => ?_)
    have I5' := I5.pinned (stat fr5) (T.obj _ _ st5)
    refine wpAny_passesOwn hp (thn (hg _ s5 σ3 H5 x u _ I5' r5 (step x H5 y5)) fun _ s6 ⟨σ6, H6, I6, q6⟩ => ?_)
    refine wpAny_passesOwn hp (thn (hb _ s6 σ6 H6 _ I6 q6) fun f s7 q7 => ?_)
    have again : ∀ {σ7 : St} {H7 : Hp}, Inv X (pins ++ pinsAt fp s5.heap) σ7 H7 s7 → N σ7 H7 → ∃ m, m < n ∧ ∃ i σ' H', Inv X pins σ' H' s7 ∧ tn i s7.heap ∧ (∀ b ∈ fp, H' b = none) ∧ W i m σ' H' := fun {σ7 H7} I7 n7 => by
      obtain ⟨m', hm, w7⟩ := hN σ7 H7 n7
      refine ⟨m', hm, i + 1, σ7, H7, I7.unpinned, T.keep _ _ _ st5 fun b hb o e => (I7.pin (b, o) (List.mem_append_right _ (List.mem_append_right _ (mem_pinsAt hb e)))).1, fun b hb => ?_, w7⟩
      obtain ⟨o, e, d⟩ := T.obj _ _ st5 b hb
      exact (I7.pin (b, o) (List.mem_append_right _ (List.mem_append_right _ (mem_pinsAt hb e)))).2.1
    cases f with
    | next => obtain ⟨σ7, H7, I7, n7⟩ := q7; exact again I7 n7
    | cont => obtain ⟨σ7, H7, I7, n7⟩ := q7; exact again I7 n7
    | brk => obtain ⟨σ7, H7, I7, q7⟩ := q7; exact ⟨σ7, H7, I7.unpinned, q7⟩
    | ret v => obtain ⟨x7, σ7, H7, I7, r7, q7⟩ := q7; exact ⟨x7, σ7, H7, I7.unpinned, r7, q7⟩
end

/-! ### the forms one uses -/
/-- over a list that the body leaves as it is -/
theorem for_list {K : PySem.W.Frag} {a : Addr} {xs : List V} {g : TG} {tb : TS} {D : Ends} {σ : St} {H : Hp} (Pv : Nat → St → Hp → Prop) (h0 : Pv 0 σ H) (hl : ∀ i σ H, i ≤ xs.length → Pv i σ H → SqL K H a xs)
    (hs : ∀ i x σ H, xs[i]? = some x → Pv i σ H → g x σ H fun σ2 H2 => tb { D with nx := Pv (i + 1), ct := Pv (i + 1), bk := D.nx } σ2 H2) (hd : ∀ σ H, Pv xs.length σ H → D.nx σ H) :
    ∃ W : Nat → Nat → St → Hp → Prop, (∃ m, W 0 m σ H) ∧ ∀ i m σ H, W i m σ H →
      ((Itl K a).stop i H ∧ D.nx σ H) ∨ ((Itl K a).go i H ∧ ∃ N : St → Hp → Prop, (∀ σ' H', N σ' H' → ∃ m', m' < m ∧ W (i + 1) m' σ' H') ∧ ∀ x H', (Itl K a).yld i H x H' → g x σ H' fun σ2 H2 => tb { D with nx := N, ct := N, bk := D.nx } σ2 H2) := by
  refine ⟨fun i m σ H => m = xs.length - i ∧ i ≤ xs.length ∧ Pv i σ H, ⟨xs.length, by simp, Nat.zero_le _, h0⟩, ?_⟩
  rintro i m σ H ⟨rfl, hi, p⟩
  have q := hl i σ H hi p
  by_cases hlt : i < xs.length
  · refine .inr ⟨⟨xs, xs[i], q, by simp [hlt]⟩, Pv (i + 1), fun σ' H' p' => ⟨xs.length - (i + 1), by omega, rfl, hlt, p'⟩, fun x H' y => ?_⟩
    obtain ⟨e, y⟩ := y
    subst e
    exact hs i x σ _ (y xs q) p
  · have e : i = xs.length := by omega
    subst e
    exact .inl ⟨⟨xs, q, Nat.le_refl _⟩, hd σ H p⟩
theorem for_tup {K : PySem.W.Frag} {a : Addr} {xs : List V} {g : TG} {tb : TS} {D : Ends} {σ : St} {H : Hp} (Pv : Nat → St → Hp → Prop) (h0 : Pv 0 σ H) (hl : ∀ i σ H, i ≤ xs.length → Pv i σ H → SqT K H a xs)
    (hs : ∀ i x σ H, xs[i]? = some x → Pv i σ H → g x σ H fun σ2 H2 => tb { D with nx := Pv (i + 1), ct := Pv (i + 1), bk := D.nx } σ2 H2) (hd : ∀ σ H, Pv xs.length σ H → D.nx σ H) :
    ∃ W : Nat → Nat → St → Hp → Prop, (∃ m, W 0 m σ H) ∧ ∀ i m σ H, W i m σ H →
      ((Itt K a).stop i H ∧ D.nx σ H) ∨ ((Itt K a).go i H ∧ ∃ N : St → Hp → Prop, (∀ σ' H', N σ' H' → ∃ m', m' < m ∧ W (i + 1) m' σ' H') ∧ ∀ x H', (Itt K a).yld i H x H' → g x σ H' fun σ2 H2 => tb { D with nx := N, ct := N, bk := D.nx } σ2 H2) := by
  refine ⟨fun i m σ H => m = xs.length - i ∧ i ≤ xs.length ∧ Pv i σ H, ⟨xs.length, by simp, Nat.zero_le _, h0⟩, ?_⟩
  rintro i m σ H ⟨rfl, hi, p⟩
  have q := hl i σ H hi p
  by_cases hlt : i < xs.length
  · refine .inr ⟨⟨xs, xs[i], q, by simp [hlt]⟩, Pv (i + 1), fun σ' H' p' => ⟨xs.length - (i + 1), by omega, rfl, hlt, p'⟩, fun x H' y => ?_⟩
    obtain ⟨e, y⟩ := y
    subst e
    exact hs i x σ _ (y xs q) p
  · have e : i = xs.length := by omega
    subst e
    exact .inl ⟨⟨xs, q, Nat.le_refl _⟩, hd σ H p⟩
theorem for_range {lo : Int} {n : Nat} {g : TG} {tb : TS} {D : Ends} {σ : St} {H : Hp} (Pv : Nat → St → Hp → Prop) (h0 : Pv 0 σ H)
    (hs : ∀ i σ H, i < n → Pv i σ H → g (.int (lo + i)) σ H fun σ2 H2 => tb { D with nx := Pv (i + 1), ct := Pv (i + 1), bk := D.nx } σ2 H2) (hd : ∀ σ H, Pv n σ H → D.nx σ H) :
    ∃ W : Nat → Nat → St → Hp → Prop, (∃ m, W 0 m σ H) ∧ ∀ i m σ H, W i m σ H →
      ((Itr lo n).stop i H ∧ D.nx σ H) ∨ ((Itr lo n).go i H ∧ ∃ N : St → Hp → Prop, (∀ σ' H', N σ' H' → ∃ m', m' < m ∧ W (i + 1) m' σ' H') ∧ ∀ x H', (Itr lo n).yld i H x H' → g x σ H' fun σ2 H2 => tb { D with nx := N, ct := N, bk := D.nx } σ2 H2) := by
  refine ⟨fun i m σ H => m = n - i ∧ i ≤ n ∧ Pv i σ H, ⟨n, by simp, Nat.zero_le _, h0⟩, ?_⟩
  rintro i m σ H ⟨rfl, hi, p⟩
  by_cases hlt : i < n
  · refine .inr ⟨hlt, Pv (i + 1), fun σ' H' p' => ⟨n - (i + 1), by omega, rfl, hlt, p'⟩, fun x H' y => ?_⟩
    obtain ⟨e, y⟩ := y
    subst e y
    exact hs i σ _ hlt p
  · have e : i = n := by omega
    subst e
    exact .inl ⟨Nat.le_refl _, hd σ H p⟩
end L2

namespace L2
open PySem PySem.Spec PyProof.Rows

noncomputable abbrev R2 := V → V → Hp → VK → Prop
/-- a two-place operation on values: f is binaryOp op, inplaceOp op or compareOp op -/
noncomputable def OpR (X : Cx) (f : Value → Value → Sem Value) (r : R2) : Prop :=
  ∀ (pins : List (Addr × Obj)) (s : Shared) (σ : St) (H : Hp) (x y : V) (v u : Value) (Q : VK), Inv X pins σ H s → RelV x v → RelV y u → r x y H Q →
    wpAny (model X.prog X.w) X.A (f v u) (EP X pins σ Q) X.xe s
/-- a call of a value that is known (a builtin, a type) with values -/
noncomputable def CallR (X : Cx) (f : Value) (r : List V → Hp → VK → Prop) : Prop :=
  ∀ (pins : List (Addr × Obj)) (s : Shared) (σ : St) (H : Hp) (xs : List V) (us : List Value) (Q : VK), Inv X pins σ H s → Vals xs us → r xs H Q →
    wpAny (model X.prog X.w) X.A (call f us) (EP X pins σ Q) X.xe s
noncomputable def tOp (r : R2) (ta tb : TE) : TE := fun σ H Q => ta σ H fun x H1 => tb σ H1 fun y H2 => r x y H2 Q
/-- ints in, under C, and a value out -/
noncomputable def rI (C : Int → Int → Prop) (g : Int → Int → V) : R2 := fun x y H Q => ∃ i j, x = .int i ∧ y = .int j ∧ C i j ∧ Q (g i j) H
noncomputable def rI0 (g : Int → Int → V) : R2 := fun x y H Q => ∃ i j, x = .int i ∧ y = .int j ∧ Q (g i j) H
section
variable {X : Cx} {a b c : Expr} {ta tb tc : TE} {pos : Pos}

theorem binT (ha : PE X a ta) (hb : PE X b tb) {pins : List (Addr × Obj)} {s : Shared} {σ : St} {H : Hp} {R : V → V → Hp → Prop} (I : Inv X pins σ H s)
    (h : ta σ H fun x H1 => tb σ H1 fun y H2 => R x y H2) {Q : Value → Shared → Prop} {f : Value → Value → Sem Value}
    (hf : ∀ v u s2 x y H2, Inv X pins σ H2 s2 → RelV x v → RelV y u → R x y H2 → wpAny (model X.prog X.w) X.A (f v u) Q X.xe s2) :
    wpAny (model X.prog X.w) X.A (eval a X.env) (fun v s₁ => wpAny (model X.prog X.w) X.A (eval b X.env) (fun u s₂ => wpAny (model X.prog X.w) X.A (f v u) Q X.xe s₂) X.xe s₁) X.xe s := by
  refine thn (ha pins s σ H _ I h) fun v s1 ⟨x, H1, I1, r1, q1⟩ => ?_
  refine thn (hb pins s1 σ H1 _ I1 q1) fun u s2 ⟨y, H2, I2, r2, q2⟩ => ?_
  exact hf v u s2 x y H2 I2 r1 r2 q2

theorem pe_op {op : Operator} {r : R2} (ho : OpR X (binaryOp op) r) (ha : PE X a ta) (hb : PE X b tb) : PE X (.BinOp a op b pos) (tOp r ta tb) := by
  intro pins s σ H Q I h
  exact wpAny_BinOp (binT ha hb I h fun v u s2 x y H2 I2 rx ry q => ho pins s2 σ H2 x y v u Q I2 rx ry q)
/-! ### ints -/
theorem opI {f : Value → Value → Sem Value} {C : Int → Int → Prop} {g : Int → Int → Int}
    (rule : ∀ (i j : Int) (t u : Tok) (s : Shared) (Q : Value → Shared → Prop) (E : Value → Shared → Prop), C i j → Q (.int (g i j) s.toks) { s with toks := s.toks + 1 } → wpAny (model X.prog X.w) X.A (f (.int i t) (.int j u)) Q E s) :
    OpR X f (rI C fun i j => .int (g i j)) := by
  intro pins s σ H x y v u Q I rx ry h
  obtain ⟨i, j, rfl, rfl, hc, q⟩ := h
  obtain ⟨t, rfl⟩ := rx
  obtain ⟨t', rfl⟩ := ry
  exact rule i j t t' s _ _ hc ⟨.int (g i j), H, I.tok _, ⟨_, rfl⟩, q⟩
theorem opI0 {f : Value → Value → Sem Value} {g : Int → Int → Int}
    (rule : ∀ (i j : Int) (t u : Tok) (s : Shared) (Q : Value → Shared → Prop) (E : Value → Shared → Prop), Q (.int (g i j) s.toks) { s with toks := s.toks + 1 } → wpAny (model X.prog X.w) X.A (f (.int i t) (.int j u)) Q E s) :
    OpR X f (rI0 fun i j => .int (g i j)) := by
  intro pins s σ H x y v u Q I rx ry h
  obtain ⟨i, j, rfl, rfl, q⟩ := h
  obtain ⟨t, rfl⟩ := rx
  obtain ⟨t', rfl⟩ := ry
  exact rule i j t t' s _ _ ⟨.int (g i j), H, I.tok _, ⟨_, rfl⟩, q⟩
theorem opB0 {f : Value → Value → Sem Value} {g : Int → Int → Bool}
    (rule : ∀ (i j : Int) (t u : Tok) (s : Shared) (Q : Value → Shared → Prop) (E : Value → Shared → Prop), Q (.bool (g i j)) s → wpAny (model X.prog X.w) X.A (f (.int i t) (.int j u)) Q E s) :
    OpR X f (rI0 fun i j => .bl (g i j)) := by
  intro pins s σ H x y v u Q I rx ry h
  obtain ⟨i, j, rfl, rfl, q⟩ := h
  obtain ⟨t, rfl⟩ := rx
  obtain ⟨t', rfl⟩ := ry
  exact rule i j t t' s _ _ ⟨.bl (g i j), H, I, rfl, q⟩

noncomputable def CDiv (i j : Int) : Prop := 0 < j ∧ j < 1073741824
noncomputable def CPow (i j : Int) : Prop := 0 ≤ j ∧ j ≤ 1000000 ∧ i.natAbs < 2 ^ 64
noncomputable def CMul (i j : Int) : Prop := (-(2 ^ 64) < i ∧ i < 2 ^ 64) ∨ (-(2 ^ 64) < j ∧ j < 2 ^ 64)
theorem CMul.ok {i j : Int} (h : CMul i j) : IntMulOk i j := by
  rcases h with ⟨h1, h2⟩ | ⟨h1, h2⟩
  · exact .of_left (intBits_le_64 h1 h2)
  · exact .of_right (intBits_le_64 h1 h2)
theorem two_pow_nn (k : Nat) : (0 : Int) ≤ 2 ^ k := by
  rw [two_pow_cast]
  exact Int.natCast_nonneg _

theorem op_add : OpR X (binaryOp .Add) (rI0 fun i j => .int (i + j)) := opI0 fun _ _ _ _ _ _ _ q => add_int q
theorem op_mul : OpR X (binaryOp .Mult) (rI CMul fun i j => .int (i * j)) := opI fun _ _ _ _ _ _ _ hc q => mul_int q hc.ok
/-- // by a positive divisor -/
theorem op_fdiv : OpR X (binaryOp .FloorDiv) (rI CDiv fun i j => .int (i / j)) := opI fun i j _ _ _ _ _ hc q => by
  have h1 : (0 : Int) < j := hc.1
  have h2 : j < 1073741824 := hc.2
  exact floordiv_int (by omega) (by rw [Int.fdiv_eq_ediv_of_nonneg i (by omega)]; exact q) (.inl (PyProof.noPylong_small (by omega)))
/-- % by a positive divisor of any size -/
theorem op_mod : OpR X (binaryOp .Mod) (rI (fun _ j => 0 < j) fun i j => .int (i % j)) := opI fun i j _ _ _ _ _ hc q => by
  have h1 : (0 : Int) < j := hc
  exact mod_int' (by omega) (by rw [Int.fmod_eq_emod_of_nonneg i (by omega)]; exact q)
theorem op_shl : OpR X (binaryOp .LShift) (rI CPow fun i j => .int (i * 2 ^ j.toNat)) := opI fun _ _ _ _ _ _ _ hc q => lshift_int_small hc.1 hc.2.1 hc.2.2 q
theorem op_shr : OpR X (binaryOp .RShift) (rI (fun _ j => 0 ≤ j) fun i j => .int (i / 2 ^ j.toNat)) := opI fun i j _ _ _ _ _ hc q =>
  rshift_int hc (by rw [Int.fdiv_eq_ediv_of_nonneg i (two_pow_nn _)]; exact q)
theorem op_and : OpR X (binaryOp .BitAnd) (rI0 fun i j => .int (Builtin.bitAnd i j)) := opI0 fun _ _ _ _ _ _ _ q => and_int q
theorem op_or : OpR X (binaryOp .BitOr) (rI0 fun i j => .int (Builtin.bitOr i j)) := opI0 fun _ _ _ _ _ _ _ q => or_int q
/-! ### bools among ints: n += (a < b) -/
end

/-! ### comparisons -/
/-- the scalars that == tells apart as data does -/
noncomputable def scal : V → V → Bool
  | .non, .non => true | .non, .int _ => true | .int _, .non => true | .non, .bl _ => true | .bl _, .non => true | .non, .str _ => true | .str _, .non => true
  | .int _, .int _ => true | .bl _, .bl _ => true | .str _, .str _ => true | .byt _, .byt _ => true
  | .int _, .str _ => true | .str _, .int _ => true | .bl _, .str _ => true | .str _, .bl _ => true
  | _, _ => false
noncomputable def rEq : R2 := fun x y H Q => scal x y = true ∧ Q (.bl (decide (x = y))) H
noncomputable def rNe : R2 := fun x y H Q => scal x y = true ∧ Q (.bl (!decide (x = y))) H

theorem dec_int {i j : Int} : decide (V.int i = V.int j) = (i == j) := by
  rw [Bool.eq_iff_iff]
  simp
theorem dec_bl {i j : Bool} : decide (V.bl i = V.bl j) = (i == j) := by
  rw [Bool.eq_iff_iff]
  simp
theorem dec_str {i j : Str} : decide (V.str i = V.str j) = (i == j) := by
  rw [Bool.eq_iff_iff]
  simp
theorem dec_byt {i j : Array UInt8} : decide (V.byt i = V.byt j) = (i.toList == j.toList) := by
  rw [Bool.eq_iff_iff]
  cases i
  cases j
  simp

section
variable {X : Cx} {a b c : Expr} {ta tb tc : TE} {pos : Pos}
theorem fin_bl {pins : List (Addr × Obj)} {σ : St} {H : Hp} {s : Shared} {Q : VK} {k k' : Bool} (I : Inv X pins σ H s) (q : Q (.bl k) H) (e : k = k') : EP X pins σ Q (.bool k') s := by
  subst e
  exact ⟨.bl k, H, I, rfl, q⟩
theorem op_eq : OpR X (compareOp .Eq) rEq := by
  intro pins s σ H x y v u Q I rx ry h
  obtain ⟨hs, q⟩ := h
  cases x with
  | non =>
    cases rx
    cases y with
    | non => cases ry; exact PySem.EqNone.eq_none_none (fin_bl I q (by simp))
    | bl j => cases ry; exact PySem.EqNone.eq_none_bool (fin_bl I q (by simp))
    | int j => obtain ⟨t', rfl⟩ := ry; exact PySem.EqNone.eq_none_int (fin_bl I q (by simp))
    | str j => obtain ⟨t', rfl⟩ := ry; exact PySem.EqNone.eq_none_str (fin_bl I q (by simp))
    | _ => exact absurd (show false = true from hs) Bool.false_ne_true
  | bl i =>
    cases rx
    cases y with
    | non => cases ry; exact PySem.EqNone.eq_bool_none (fin_bl I q (by simp))
    | bl j => cases ry; exact eq_bool (fin_bl I q dec_bl)
    | str j => obtain ⟨t', rfl⟩ := ry; exact PySem.EqMixed.eq_bool_str (fin_bl I q (by simp))
    | _ => exact absurd (show false = true from hs) Bool.false_ne_true
  | int i =>
    obtain ⟨t, rfl⟩ := rx
    cases y with
    | non => cases ry; exact PySem.EqNone.eq_int_none (fin_bl I q (by simp))
    | int j => obtain ⟨t', rfl⟩ := ry; exact eq_int (fin_bl I q dec_int)
    | str j => obtain ⟨t', rfl⟩ := ry; exact PySem.EqMixed.eq_int_str (fin_bl I q (by simp))
    | _ => exact absurd (show false = true from hs) Bool.false_ne_true
  | str i =>
    obtain ⟨t, rfl⟩ := rx
    cases y with
    | non => cases ry; exact PySem.EqNone.eq_str_none (fin_bl I q (by simp))
    | bl j => cases ry; exact PySem.EqMixed.eq_str_bool (fin_bl I q (by simp))
    | int j => obtain ⟨t', rfl⟩ := ry; exact PySem.EqMixed.eq_str_int (fin_bl I q (by simp))
    | str j => obtain ⟨t', rfl⟩ := ry; exact eq_str (fin_bl I q dec_str)
    | _ => exact absurd (show false = true from hs) Bool.false_ne_true
  | byt i =>
    obtain ⟨t, rfl⟩ := rx
    cases y with
    | byt j => obtain ⟨t', rfl⟩ := ry; exact PySem.W.eq_bytes (fin_bl I q dec_byt)
    | _ => exact absurd (show false = true from hs) Bool.false_ne_true
  | _ => cases y <;> exact absurd (show false = true from hs) Bool.false_ne_true
theorem op_ne : OpR X (compareOp .NotEq) rNe := by
  intro pins s σ H x y v u Q I rx ry h
  obtain ⟨hs, q⟩ := h
  cases x with
  | non =>
    cases rx
    cases y with
    | non => cases ry; exact PySem.EqNone.ne_none_none (fin_bl I q (by simp))
    | bl j => cases ry; exact PySem.EqNone.ne_none_bool (fin_bl I q (by simp))
    | int j => obtain ⟨t', rfl⟩ := ry; exact PySem.EqNone.ne_none_int (fin_bl I q (by simp))
    | str j => obtain ⟨t', rfl⟩ := ry; exact PySem.EqNone.ne_none_str (fin_bl I q (by simp))
    | _ => exact absurd (show false = true from hs) Bool.false_ne_true
  | bl i =>
    cases rx
    cases y with
    | non => cases ry; exact PySem.EqNone.ne_bool_none (fin_bl I q (by simp))
    | bl j => cases ry; exact ne_bool (fin_bl I q (congrArg not dec_bl))
    | str j => obtain ⟨t', rfl⟩ := ry; exact PySem.EqMixed.ne_bool_str (fin_bl I q (by simp))
    | _ => exact absurd (show false = true from hs) Bool.false_ne_true
  | int i =>
    obtain ⟨t, rfl⟩ := rx
    cases y with
    | non => cases ry; exact PySem.EqNone.ne_int_none (fin_bl I q (by simp))
    | int j => obtain ⟨t', rfl⟩ := ry; exact ne_int (fin_bl I q (congrArg not dec_int))
    | str j => obtain ⟨t', rfl⟩ := ry; exact PySem.EqMixed.ne_int_str (fin_bl I q (by simp))
    | _ => exact absurd (show false = true from hs) Bool.false_ne_true
  | str i =>
    obtain ⟨t, rfl⟩ := rx
    cases y with
    | non => cases ry; exact PySem.EqNone.ne_str_none (fin_bl I q (by simp))
    | bl j => cases ry; exact PySem.EqMixed.ne_str_bool (fin_bl I q (by simp))
    | int j => obtain ⟨t', rfl⟩ := ry; exact PySem.EqMixed.ne_str_int (fin_bl I q (by simp))
    | str j => obtain ⟨t', rfl⟩ := ry; exact ne_str (fin_bl I q (congrArg not dec_str))
    | _ => exact absurd (show false = true from hs) Bool.false_ne_true
  | byt i =>
    obtain ⟨t, rfl⟩ := rx
    cases y with
    | byt j => obtain ⟨t', rfl⟩ := ry; exact PySem.W.ne_bytes (fin_bl I q (congrArg not dec_byt))
    | _ => exact absurd (show false = true from hs) Bool.false_ne_true
  | _ => cases y <;> exact absurd (show false = true from hs) Bool.false_ne_true

theorem op_lt : OpR X (compareOp .Lt) (rI0 fun i j => .bl (decide (i < j))) := opB0 fun _ _ _ _ _ _ _ q => lt_int q
theorem op_le : OpR X (compareOp .LtE) (rI0 fun i j => .bl (decide (i ≤ j))) := opB0 fun _ _ _ _ _ _ _ q => le_int q
theorem op_gt : OpR X (compareOp .Gt) (rI0 fun i j => .bl (decide (j < i))) := opB0 fun _ _ _ _ _ _ _ q => gt_int q
/-- the one string within the other -/
theorem op_in_str : OpR X (compareOp .In) (fun x y H Q => ∃ i j, x = .str i ∧ y = .str j ∧ Q (.bl (!(Builtin.Str.occurrences j i 0 j.length 1).isEmpty)) H) := by
  intro pins s σ H x y v u Q I rx ry h
  obtain ⟨i, j, rfl, rfl, q⟩ := h
  obtain ⟨t, rfl⟩ := rx
  obtain ⟨t', rfl⟩ := ry
  exact in_str (fin_bl I q rfl)

/-- is None, is not None: the right side a value none -/
theorem op_isN : OpR X (compareOp .Is) (fun x y H Q => y = .non ∧ Q (.bl (decide (x = .non))) H) := by
  intro pins s σ H x y v u Q I rx ry h
  obtain ⟨rfl, q⟩ := h
  cases ry
  refine is_none_gen (fin_bl I q ?_)
  cases x <;> first
    | (cases rx; rfl)
    | (obtain ⟨t, rfl⟩ := rx; rfl)
theorem nomark (b : Expr) {op : CmpOp} (h : op ≠ .In := by decide) (h2 : op ≠ .NotIn := by decide) : behindInMarks op b = false := by
  have e1 : (op == CmpOp.In) = false := by cases op <;> first | rfl | exact absurd rfl h
  have e2 : (op == CmpOp.NotIn) = false := by cases op <;> first | rfl | exact absurd rfl h2
  cases b <;> simp [behindInMarks, e1, e2]
/-- a comparison as a value; hm: nomark b, or (for in, not in) by with_unfolding_all rfl -/
theorem pe_cmpR {op : CmpOp} {r : R2} (ho : OpR X (compareOp op) r) (ha : PE X a ta) (hb : PE X b tb) (hm : behindInMarks op b = false) : PE X (.Compare a [op] [b] pos) (tOp r ta tb) := by
  intro pins s σ H Q I h
  exact wpAny_Compare1 (binT ha hb I h fun v u s2 x y H2 I2 rx ry q => ho pins s2 σ H2 x y v u Q I2 rx ry q) hm
/-- a reading of a value as a test -/
noncomputable def tTest (t : TE) : TT := fun σ H Q => t σ H fun x H' => ∃ k, x = .bl k ∧ Q k H'
theorem pt_cmpR {op : CmpOp} {r : R2} (ho : OpR X (compareOp op) r) (ha : PE X a ta) (hb : PE X b tb) (hm : behindInMarks op b = false) : PT X (.Compare a [op] [b] pos) (tTest (tOp r ta tb)) := by
  intro pins s σ H Q I h
  refine wpAny_isTrue_Compare1 (thn (ha pins s σ H _ I h) fun v s1 ⟨x, H1, I1, r1, q1⟩ => thn (hb pins s1 σ H1 _ I1 q1) fun u s2 ⟨y, H2, I2, r2, q2⟩ =>
    thn (ho pins s2 σ H2 x y v u _ I2 r1 r2 q2) fun c s3 ⟨z, H3, I3, r3, k, e, q3⟩ => ?_) hm
  subst e
  cases r3
  exact wpAny_truthy_bool ⟨H3, I3, q3⟩
/-! ### truth -/
theorem line63 : (sizeLine : Nat) < 2 ^ 63 := by rw [sizeLine_eq]; decide
/-! ### strs and bytes -/
/-! ### scalar builtins, by CallR -/
theorem vals1 {x : V} {us : List Value} (r : Vals [x] us) : ∃ u, us = [u] ∧ RelV x u := by
  cases r with
  | cons r1 r2 => cases r2; exact ⟨_, rfl, r1⟩
theorem vals2 {x y : V} {us : List Value} (r : Vals [x, y] us) : ∃ u w', us = [u, w'] ∧ RelV x u ∧ RelV y w' := by
  cases r with
  | cons r1 r2 =>
    cases r2 with
    | cons r3 r4 => cases r4; exact ⟨_, _, rfl, r1, r3⟩
/-- len of a str, a bytes, a list, a tuple -/
noncomputable def LenV (K : PySem.W.Frag) (x : V) (H : Hp) (n : Nat) : Prop :=
  match x with
  | .str y => y.length ≤ sizeLine ∧ n = y.length
  | .byt y => y.size ≤ sizeLine ∧ n = y.size
  | .ref p => (∃ xs, SqL K H p xs ∧ n = xs.length) ∨ ∃ xs, SqT K H p xs ∧ n = xs.length
  | _ => False
theorem call_len : CallR X (.builtin "len") (fun xs H Q => ∃ x n, xs = [x] ∧ LenV X.K x H n ∧ Q (.int n) H) := by
  intro pins s σ H xs us Q I r h
  obtain ⟨x, n, rfl, e, q⟩ := h
  obtain ⟨u, rfl, rx⟩ := vals1 r
  have hl := line63
  have hs : sizeLine = 16777216 := sizeLine_eq
  cases x with
  | str y =>
    obtain ⟨t, rfl⟩ := rx
    obtain ⟨hy, e'⟩ : y.length ≤ sizeLine ∧ n = y.length := e
    subst e'
    exact len_str (by omega) ⟨.int _, H, I.tok _, ⟨_, rfl⟩, q⟩
  | byt y =>
    obtain ⟨t, rfl⟩ := rx
    obtain ⟨hy, e'⟩ : y.size ≤ sizeLine ∧ n = y.size := e
    subst e'
    exact PySem.W.len_bytes (by omega) ⟨.int _, H, I.tok _, ⟨_, rfl⟩, q⟩
  | ref p =>
    cases rx
    have e' : (∃ xs, SqL X.K H p xs ∧ n = xs.length) ∨ ∃ xs, SqT X.K H p xs ∧ n = xs.length := e
    rcases e' with ⟨xs, hx, e'⟩ | ⟨xs, hx, e'⟩
    · subst e'
      obtain ⟨its, r', pl, hz⟩ := I.list hx
      have hlen := r'.length
      exact Calls.call_len_list pl.isList (by simp only [List.size_toArray]; omega) ⟨.int xs.length, H, I.tok _, ⟨_, by simp only [List.size_toArray]; rw [hlen]⟩, q⟩
    · subst e'
      obtain ⟨its, r', pl, hz⟩ := I.tuple hx
      have hlen := r'.length
      exact len_tuple pl (by simp only [List.size_toArray]; omega) ⟨.int xs.length, H, I.tok _, ⟨_, by simp only [List.size_toArray]; rw [hlen]⟩, q⟩
  | _ => exact (show False from e).elim
end
end L2

namespace L2
open PySem PySem.Spec PyProof.Rows

/-! ### an instance, its attributes a map -/
structure ObjM (h : Heap) (x dx C : Addr) (mA : Str → Option Value) : Prop where
  obj : h.get? x = some (PySem.W.instObj C dx)
  ns : h.Ns1 dx mA
  ne : dx ≠ x

theorem lookIn_ns {h : Heap} {dx : Addr} {mA : Str → Option Value} (n : h.Ns1 dx mA) : ∃ od, h.get? dx = some od ∧ ∀ name, PySem.W.lookIn name od = some (mA name) := by
  obtain ⟨o, es, ep, ho, hd, hk, _, hm⟩ := n
  refine ⟨o, ho, fun name => ?_⟩
  have e := hm name
  unfold nsFind findBy at e
  rw [← Array.find?_toList] at e
  unfold PySem.W.lookIn
  rw [hd]
  dsimp only
  split
  · rename_i y q
    rw [q] at e
    exact congrArg some e
  · rename_i q
    rw [q] at e
    have a : es.toList.any (·.refKey) = false := by
      rw [List.any_eq_false]
      intro y hy
      obtain ⟨z, t, hkey⟩ := hk y (Array.mem_toList_iff.mp hy)
      simp [DictEntry.refKey, hkey]
    have a' : ¬ es.toList.any (·.refKey) = true := by rw [a]; exact Bool.false_ne_true
    rw [if_neg a']
    exact congrArg some e

theorem ObjM.look {h : Heap} {x dx C : Addr} {mA : Str → Option Value} (I : ObjM h x dx C mA) : ∃ od, PySem.W.InstAt h x (PySem.W.instObj C dx) C (some od) ∧ ∀ name, PySem.W.lookIn name od = some (mA name) :=
  let ⟨od, ho, hl⟩ := lookIn_ns I.ns
  ⟨od, ⟨I.obj, rfl, rfl, ho⟩, hl⟩

section
variable {prog : Program} {w : World} {A : Around} {E : Value → Shared → Prop} {s : Shared} {K : PySem.W.Frag} {x dx C f : Addr} {mA : Str → Option Value} {name : Str} {v : Value}

end

/-! ### the attributes as a list of pairs -/
section
variable {P : Program} {w : World} {H H' : Hp} {h h' : Heap} {a C dx : Addr} {fs fs' : List (Str × V)}
theorem ins_get (hok : HOk P w H h) (e : H a = some (.ins C dx fs)) : ∃ mA, ObjM h a dx C mA ∧ (∀ f, RelO (fs.lookup f) (mA f)) ∧ PySem.Within mA (fs.map (·.1)) ∧ fs.length ≤ 1000 ∧ H dx = some (.own a) := by
  obtain ⟨d, z, ne, ob, mA, n, r, q⟩ := (show ObjOk P w H h a (.ins C dx fs) from hok a _ e)
  exact ⟨mA, ⟨ob, n, ne⟩, r, q, z, d⟩
end

/-! ### what of the text a class must have -/
structure Cls (K : PySem.W.Frag) (C : Addr) : Prop where
  pg : PySem.W.plainGet K C Str.empty = true
  hd : PySem.W.hasDictIn K C = true
  po : PySem.W.plainOver K C = true
  sa : PySem.W.findIn K (.ref C) "__setattr__" = some (some (.builtin "object.__setattr__"))
theorem Cls.get {K : PySem.W.Frag} {C : Addr} (c : Cls K C) (f : Str) : PySem.W.plainGet K C f = true := c.pg
section
variable {X : Cx} {pins : List (Addr × Obj)} {σ : St} {H : Hp} {s : Shared} {a C dx : Addr} {fs : List (Str × V)} {f : Str} {v : V} {A : Around} {E : Value → Shared → Prop}

end

/-! ### readings and rules -/
section
variable {X : Cx} {o e value : Expr} {f : Str} {pos pos' tpos : Pos} {ta tv : TE}
end

/-! ### isinstance -/
section
variable {X : Cx} {pins : List (Addr × Obj)} {σ : St} {H : Hp} {s : Shared} {A : Around} {E : Value → Shared → Prop} {Q : Value → Shared → Prop} {c : Value} {b : Bool}
/-- the type of a value, as the fragment's deciders take it; for an instance its class -/
inductive TyOf (K : PySem.W.Frag) (H : Hp) : V → Value → Prop where
  | non : TyOf K H .non (.type "NoneType")
  | bl (x : Bool) : TyOf K H (.bl x) (.type "bool")
  | int (i : Int) : TyOf K H (.int i) (.type "int")
  | str (x : Str) : TyOf K H (.str x) (.type "str")
  | flt (x : UInt64) : TyOf K H (.flt x) (.type "float")
  | lst {a : Addr} {xs : List V} (e : H a = some (.lst xs)) : TyOf K H (.ref a) (.type "list")
  | frz {a : Addr} {o : Obj} {xs : List V} (e : H a = some (.frz o (.lst xs))) : TyOf K H (.ref a) (.type "list")
  | tup {a : Addr} {xs : List V} (e : H a = some (.tup xs)) : TyOf K H (.ref a) (.type "tuple")
  | dK {a : Addr} {kvs : List (Key × V)} (e : H a = some (.dK kvs)) : TyOf K H (.ref a) (.type "dict")
  | dT {a : Addr} {kvs : List (List Key × V)} (e : H a = some (.dT kvs)) : TyOf K H (.ref a) (.type "dict")
  | ins {a C dx : Addr} {fs : List (Str × V)} (e : H a = some (.ins C dx fs)) (cl : Cls K C) (ha : PySem.W.findIn K (.ref C) "__class__" = some (some (.builtin "object.__class__")))
      (hn : PySem.W.specialIn K (.builtin "object.__class__") "__get__" = some (some (.builtin "getset_descriptor.__get__"))) (htk : PySem.W.takesIn K (.builtin "object.__class__") = some true)
      (hm : PySem.W.mroIn K C (.type "object") = some true) : TyOf K H (.ref a) (.ref C)
/-- isinstance(x, c) for one class c, a built-in or an own one: kitOne's answer -/
theorem isinst_ok {x : V} {u t : Value} (I : Inv X pins σ H s) (rx : RelV x u) (ty : TyOf X.K H x t) (e : PySem.W.kitOne X.K t c = some b) (h : ∀ tk, Q (.bool b) { s with toks := tk }) :
    wpAny (model X.prog X.w) A (call (.builtin "isinstance") [u, c]) Q E s := by
  cases ty with
  | non => cases (show u = Value.none from rx); exact PySem.W.kia_one PySem.W.kitx_none I.kIn True.intro e (fun z => nomatch z) h
  | bl y => cases (show u = Value.bool y from rx); exact PySem.W.kia_one PySem.W.kitx_bool I.kIn True.intro e (fun z => nomatch z) h
  | int i => obtain ⟨t, q⟩ := (show ∃ t, u = Value.int i t from rx); cases q; exact PySem.W.kia_one PySem.W.kitx_int I.kIn True.intro e (fun z => nomatch z) h
  | str y => obtain ⟨t, q⟩ := (show ∃ t, u = Value.str y t from rx); cases q; exact PySem.W.kia_one PySem.W.kitx_str I.kIn True.intro e (fun z => nomatch z) h
  | flt y => obtain ⟨t, q⟩ := (show ∃ t, u = Value.float y t from rx); cases q; exact PySem.W.kia_one PySem.W.kitx_float I.kIn True.intro e (fun z => nomatch z) h
  | @lst a xs ea =>
    cases (show u = Value.ref a from rx)
    obtain ⟨_, _, n, _, h1⟩ := (show ObjOk X.prog X.w H s.heap a (.lst xs) from I.hok a _ ea)
    exact PySem.W.kia_one PySem.W.kitx_list I.kIn ⟨_, h1, rfl⟩ e (fun z => nomatch z) h
  | @frz a ob xs ea =>
    cases (show u = Value.ref a from rx)
    obtain ⟨_, _, _, n, _, h1⟩ := (show ObjOk X.prog X.w H s.heap a (.frz ob (.lst xs)) from I.hok a _ ea)
    exact PySem.W.kia_one PySem.W.kitx_list I.kIn ⟨_, h1, rfl⟩ e (fun z => nomatch z) h
  | @tup a xs ea =>
    cases (show u = Value.ref a from rx)
    obtain ⟨_, _, _, p⟩ := (show ObjOk X.prog X.w H s.heap a (.tup xs) from I.hok a _ ea)
    obtain ⟨o, h1, h2, _⟩ := p
    exact PySem.W.kia_one PySem.W.kitx_tuple I.kIn ⟨o, h1, h2⟩ e (fun z => nomatch z) h
  | @dK a kvs ea =>
    cases (show u = Value.ref a from rx)
    obtain ⟨_, _, vs, _, p⟩ := (show ObjOk X.prog X.w H s.heap a (.dK kvs) from I.hok a _ ea)
    obtain ⟨o, es, ep, h1, h2, _⟩ := p
    exact PySem.W.kia_one PySem.W.kitx_dict I.kIn ⟨o, h1, h2.1⟩ e (fun z => nomatch z) h
  | @dT a kvs ea =>
    cases (show u = Value.ref a from rx)
    obtain ⟨_, _, xs, _, o, es, ep, h1, h2, _⟩ := (show ObjOk X.prog X.w H s.heap a (.dT kvs) from I.hok a _ ea)
    exact PySem.W.kia_one PySem.W.kitx_dict I.kIn ⟨o, h1, h2.1⟩ e (fun z => nomatch z) h
  | @ins a C dx fs ea cl ha hn htk hm =>
    cases (show u = Value.ref a from rx)
    obtain ⟨mA, O, _⟩ := ins_get I.hok ea
    obtain ⟨od, J, _⟩ := O.look
    exact PySem.W.kia_one (PySem.W.kitx_own (cl.get _) cl.hd ha hn htk hm) I.kIn J e (fun z => nomatch z) h
end
end L2

namespace L2
open PySem PySem.Spec PyProof.Rows

/-! ### room -/
structure Room (k : Nat) (A : Around) : Prop where
  hd : A.handled = none
  dp : A.depth + 3 * k + 5 < recursionLimit
  un : A.units + 16 * k + 200 < cLine
theorem Room.mono {j k : Nat} {A : Around} (r : Room k A) (h : j ≤ k) : Room j A := ⟨r.hd, by have := r.dp; omega, by have := r.un; omega⟩
theorem Room.deeper {k : Nat} {A : Around} (r : Room (k + 1) A) (env : Env) : Room k (A.deeper env) :=
  ⟨r.hd, by have := r.dp; show A.depth + 1 + 3 * k + 5 < _; omega, by have := r.un; show A.units + 3 + 16 * k + 200 < _; omega⟩
theorem Room.depth {k : Nat} {A : Around} (r : Room k A) : A.depth < recursionLimit := by have := r.dp; omega
theorem Room.units {k : Nat} {A : Around} (r : Room k A) : A.units + 64 < cLine := by have := r.un; omega
/-! ### argument lists and displays -/
noncomputable def tNil : TA := fun _ H Q => Q [] H
noncomputable def tCons (ta : TE) (tr : TA) : TA := fun σ H Q => ta σ H fun x H1 => tr σ H1 fun xs H2 => Q (x :: xs) H2
section
variable {X : Cx} {e : Expr} {es : List Expr} {te : TE} {t : TA} {pos : Pos}
theorem pa_nil : PA X [] tNil := fun _ _ _ _ H Q I h => Calls.spliced_nil ⟨[], H, I, .nil, h⟩
theorem pa_cons (ha : PE X e te) (hr : PA X es t) (hs : starEach (e :: es) X.env = (false, eval e X.env) :: starEach es X.env := by rfl) : PA X (e :: es) (tCons te t) := by
  intro pos pins s σ H Q I h
  rw [hs]
  show wpAny _ _ (spliced ((false, eval e X.env) :: backTo pos (starEach es X.env))) _ _ s
  refine Calls.spliced_cons (thn (ha pins s σ H _ I h) fun u s1 ⟨x, H1, I1, r1, q1⟩ => ?_)
  exact thn (hr pos pins s1 σ H1 _ I1 q1) fun us s2 ⟨xs, H2, I2, r2, q2⟩ => ⟨x :: xs, H2, I2, .cons r1 r2, q2⟩

/-- a tuple, a list of written items -/
noncomputable def tTup (t : TA) : TE := fun σ H Q => t σ H fun xs H1 => xs.length ≤ sizeLine ∧ ∀ p, H1 p = none → Q (.ref p) (upd H1 p (.tup xs))
noncomputable def tLst (t : TA) : TE := fun σ H Q => t σ H fun xs H1 => xs.length ≤ sizeLine ∧ ∀ p, H1 p = none → Q (.ref p) (upd H1 p (.lst xs))
theorem pe_tup {x1} (h : PA X es t) : PE X (.Tuple es x1 pos) (tTup t) := by
  intro pins s σ H Q I hq
  refine wpAny_Tuple_spliced (thn (h pos pins s σ H _ I hq) fun us s1 ⟨xs, H1, I1, r, z, q⟩ => ⟨by rw [← r.length]; exact z, ?_⟩)
  have hf : H1 s1.heap.objs.size = none := I1.hok.fresh (Nat.le_refl _)
  refine ⟨.ref s1.heap.objs.size, upd H1 s1.heap.objs.size (.tup xs), I1.laid (t' := s1.toks) (fun b u e => Heap.get?_push_of_some _ e) (Nat.le_refl _) ?_, rfl, q _ hf⟩
  exact ⟨z, us, r, ⟨_, Heap.get?_push_size _ rfl, rfl, _, rfl⟩⟩
theorem pe_lst (h : PA X es t) : PE X (.List es pos) (tLst t) := by
  intro pins s σ H Q I hq
  refine wpAny_List_spliced (thn (h pos pins s σ H _ I hq) fun us s1 ⟨xs, H1, I1, r, z, q⟩ => ⟨by rw [← r.length]; exact z, ?_⟩)
  have hf : H1 s1.heap.objs.size = none := I1.hok.fresh (Nat.le_refl _)
  refine ⟨.ref s1.heap.objs.size, upd H1 s1.heap.objs.size (.lst xs), I1.laid (t' := s1.toks) (fun b u e => Heap.get?_push_of_some _ e) (Nat.le_refl _) ?_, rfl, q _ hf⟩
  exact ⟨z, us, 0, r, Heap.get?_push_size _ rfl⟩
end

/-! ### what a def promises -/
/-- a def's promise: the bound arguments in the parameters' order, the heap, the wanted end, the wanted exception -/
noncomputable abbrev Sp := List V → Hp → VK → XK → Prop
/-- how an exception lies behind a call (file 08 gives it): the callers' frames, abstract heap and state ahead of the call, the wish, the exception, the state -/
noncomputable abbrev CXT := List Env → Hp → Shared → XK → Value → Shared → Prop

/-- the state at a call -/
structure Env0 (P : Program) (w : World) (K : PySem.W.Frag) (mg : Str → Option Value) (base : Heap) (A : Around) (outer : List Env) (s : Shared) (H : Hp) : Prop where
  frames : A.frames = some outer
  mod : Mod K mg base
  bs : ∀ b o, base.get? b = some o → s.heap.get? b = some o ∧ H b = none
  bsz : base.objs.size ≤ s.heap.objs.size
  funs : s.heap.FunFrames base outer
  frf : ∀ b ∈ frs outer, H b = none
  hok : HOk P w H s.heap
  bare : AllBare s.gens
/-- a call's end -/
noncomputable def CE (outer : List Env) (P : Program) (w : World) (H : Hp) (s : Shared) (Q : VK) (u : Value) (s' : Shared) : Prop :=
  ∃ v H', s'.os = s.os ∧ AllBare s'.gens ∧ Un (frs outer) [] H H' s.heap s'.heap ∧ HOk P w H' s'.heap ∧ RelV v u ∧ Q v H'
noncomputable def CR (CX : CXT) (outer : List Env) (P : Program) (w : World) (H : Hp) (s : Shared) (Q : VK) (E : XK) (r : Result) (s' : Shared) : Prop :=
  match r with
  | .ok (.ret u) => CE outer P w H s Q u s'
  | .ok _ => False
  | .error e => CX outer H s E e s'
structure FnOk (P : Program) (w : World) (K : PySem.W.Frag) (mg : Str → Option Value) (base : Heap) (CX : CXT) (k : Nat) (f : Addr) (fd : FuncData) (ps : List Str) (sp : Sp) : Prop where
  len : ∀ vs H Q E, sp vs H Q E → vs.length = ps.length
  run : ∀ (A : Around) (outer : List Env) (s : Shared) (H : Hp) (args : Args) (us : List Value) (vs : List V) (Q : VK) (E : XK), Room k A → Env0 P w K mg base A outer s H → BindsTo s fd args (ps.zip us) → Vals vs us → sp vs H Q E →
    codeAny (model P w) A (.call (.ref f) args) (CR CX outer P w H s Q E) s
/-- a weaker promise -/
theorem FnOk.imp {P : Program} {w : World} {K : PySem.W.Frag} {mg : Str → Option Value} {base : Heap} {CX : CXT} {k : Nat} {f : Addr} {fd : FuncData} {ps : List Str} {sp sp' : Sp} (F : FnOk P w K mg base CX k f fd ps sp)
    (h : ∀ vs H Q E, sp' vs H Q E → sp vs H Q E) : FnOk P w K mg base CX k f fd ps sp' :=
  ⟨fun vs H Q E q => F.len vs H Q E (h _ _ _ _ q), fun A outer s H args us vs Q E hr he hb hv hs => F.run A outer s H args us vs Q E hr he hb hv (h _ _ _ _ hs)⟩

section
variable {X : Cx} {pins : List (Addr × Obj)} {σ : St} {H : Hp} {s s' : Shared}
/-- from a body: what a callee wants -/
theorem Inv.env0 (I : Inv X pins σ H s) : Env0 X.prog X.w X.K X.mg X.base X.A X.stack s H :=
  ⟨I.ok.frames, I.ok.mod, I.bs, Nat.le_trans I.ok.bsz I.sz, I.stack, I.stkFree, I.hok, I.bare⟩
/-- behind a call -/
theorem Inv.after {Q : VK} {u : Value} (I : Inv X pins σ H s) (h : CE X.stack X.prog X.w H s Q u s') : EP X pins σ Q u s' := by
  obtain ⟨v, H', os, bare, un, hok, r, q⟩ := h
  obtain ⟨hh, g, d, t, os'⟩ := s'
  obtain rfl : os' = s.os := os
  exact ⟨v, H', I.call (h' := hh) (g' := g) (d' := d) (t' := t) (ch := []) un hok bare (fun b z => absurd z (by simp)), r, q⟩
end

/-! ### calls -/
/-- f(..): the written arguments, then the defaults dvs; E: what is wanted of an exception -/
noncomputable def tCall (sp : Sp) (dvs : List V) (E : XK) (t : TA) : TE := fun σ H Q => t σ H fun vs H1 => sp (vs ++ dvs) H1 Q E
/-- how the parameters are bound: us the positional arguments, kw the keywords' values by name, ds the defaults that fill up -/
noncomputable def Binds (K : PySem.W.Frag) (fd : FuncData) (ps : List Str) (ds : List Value) : Prop :=
  ∀ (s : Shared) (us : List Value), K.In s.heap → (us ++ ds).length = ps.length → BindsTo s fd ⟨us, []⟩ (ps.zip (us ++ ds))
/-- every parameter is given -/
theorem Binds.all {K : PySem.W.Frag} {fd : FuncData} {ps : List Str} (h : ∀ us : List Value, us.length = ps.length → bindArgs fd ⟨us, []⟩ = pure (ps.zip us)) : Binds K fd ps [] := fun s us _ hl => by
  rw [List.append_nil] at hl ⊢
  exact .of_eq (h us hl)

/-- an exception of a callee reaches what this body wants of exceptions -/
noncomputable def Passes (CX : CXT) (X : Cx) (E : XK) : Prop := ∀ (pins : List (Addr × Obj)) (σ : St) (H : Hp) (s : Shared) (e : Value) (s' : Shared), Inv X pins σ H s → CX X.stack H s E e s' → X.xe e s'

section
variable {X : Cx} {CX : CXT} {k : Nat} {f C : Addr} {fd : FuncData} {ps : List Str} {sp : Sp} {dvs : List V} {ds : List Value} {E : XK} {x m : Str} {p pos apos : Pos} {e o : Expr} {es : List Expr} {ta : TE} {t : TA}

/-- the callee runs -/
theorem run_fn {pins : List (Addr × Obj)} {σ : St} {H : Hp} {s : Shared} {Q : VK} {us : List Value} {vs : List V} (F : FnOk X.prog X.w X.K X.mg X.base CX k f fd ps sp) (hr : Room k X.A) (hb : Binds X.K fd ps ds) (hd : Vals dvs ds) (hx : Passes CX X E)
    (I : Inv X pins σ H s) (r : Vals vs us) (h : sp (vs ++ dvs) H Q E) : wpAny (model X.prog X.w) X.A (call (.ref f) us) (EP X pins σ Q) X.xe s := by
  have r2 : Vals (vs ++ dvs) (us ++ ds) := r.append hd
  have hl : (us ++ ds).length = ps.length := by rw [← r2.length]; exact F.len _ _ _ _ h
  refine wpAny_call (codeAny_mono (F.run X.A X.stack s H ⟨us, []⟩ (us ++ ds) (vs ++ dvs) Q E hr I.env0 (hb s us I.kIn hl) r2 h) fun r s' hq => ?_)
  cases r with
  | error e => exact hx pins σ H s e s' I hq
  | ok fl =>
    cases fl with
    | ret u => exact I.after hq
    | next => exact False.elim hq
    | brk => exact False.elim hq
    | cont => exact False.elim hq

theorem pe_call (F : FnOk X.prog X.w X.K X.mg X.base CX k f fd ps sp) (hr : Room k X.A) (hg : Gl X x) (hm : X.mg x = some (.ref f)) (hk : PySem.W.keepIn X.K (.ref f) = true) (hb : Binds X.K fd ps ds) (hd : Vals dvs ds) (hx : Passes CX X E)
    (ha : PA X (e :: es) t) (hdb : (x == ("__debug__" : Str)) = false := by decide) (he : starEach (e :: es) X.env = (false, eval e X.env) :: starEach es X.env := by rfl) (hpl : (backTo pos (starEach es X.env)).any (·.1) = false := by rfl) :
    PE X (.Call (.Name x p) (e :: es) [] pos) (tCall sp dvs E t) := by
  intro pins s σ H Q I h
  refine wpAny_Call_Name_kw (ld_glob I hg hm ?_ hdb)
  refine PySem.W.callWith_K (h₀ := X.base) I.ok.mod.kin hk (thn (ha pos pins s σ H _ I h) fun us s1 ⟨vs, H1, I1, r, q⟩ => ⟨I1.kIn, ?_⟩) he hpl
  exact run_fn F hr hb hd hx I1 r q
end

/-! ### keywords -/
section
variable {X : Cx} {CX : CXT} {k : Nat} {f C : Addr} {fd : FuncData} {ps ks : List Str} {sp : Sp} {E : XK} {x m : Str} {p pos apos kpos : Pos} {e o : Expr} {es : List Expr} {kws : List Keyword} {te ta : TE} {t tk : TA} {nm : Option Str}
variable {g : List Value → List Value → List Value} {gV : List V → List V → List V}
end

/-! ### a def's body keeps its promise -/
/-- names: the parameters first -/
structure FnScope (N P : List Str) (sc : Scope) : Prop where
  kind : sc.kind = .function
  co : sc.isCoroutine = false
  gen : sc.isGenerator = false
  nd : N.Nodup
  pre : N.take P.length = P
  par : ∀ x ∈ P, sc.names.lookup x = some .local ∨ sc.names.lookup x = some .cell
  nofree : ∀ y ∈ sc.names, y.2 ≠ .free

theorem bindL_out {kindOf : Str → Option NameKind} {x : Str} : ∀ {binds : List (Str × Value)} {m : Str → Option Value}, (∀ v, (x, v) ∉ binds) → bindL kindOf binds m x = m x
  | [], _, _ => rfl
  | (n, v) :: r, m, h => by
    unfold bindL
    rw [bindL_out fun w hw => h w (List.mem_cons_of_mem _ hw)]
    split
    · have : x ≠ n := by rintro rfl; exact h v List.mem_cons_self
      simp [this]
    · rfl
theorem bindC_out {kindOf : Str → Option NameKind} {x : Str} : ∀ {binds : List (Str × Value)} {m : Str → Option Value}, (∀ v, (x, v) ∉ binds) → bindC kindOf binds m x = m x
  | [], _, _ => rfl
  | (n, v) :: r, m, h => by
    unfold bindC
    rw [bindC_out fun w hw => h w (List.mem_cons_of_mem _ hw)]
    split
    · rfl
    · have : x ≠ n := by rintro rfl; exact h v List.mem_cons_self
      simp [this]
theorem bindL_get {kindOf : Str → Option NameKind} {x : Str} {v : Value} : ∀ {P : List Str} {vs : List Value} {i : Nat} {m : Str → Option Value}, P.Nodup → P[i]? = some x → vs[i]? = some v → kindOf x = some .local →
    bindL kindOf (P.zip vs) m x = some v
  | [], _, _, _, _, h, _, _ => by simp at h
  | _ :: _, [], _, _, _, _, h, _ => by simp at h
  | p :: P, w :: vs, 0, m, nd, h1, h2, hk => by
    simp at h1 h2; subst h1; subst h2
    show bindL kindOf ((p, w) :: P.zip vs) m p = _
    unfold bindL
    rw [bindL_out fun v hv => (List.nodup_cons.mp nd).1 (List.of_mem_zip hv).1, if_pos hk]
    simp
  | p :: P, w :: vs, i + 1, m, nd, h1, h2, hk => by
    show bindL kindOf ((p, w) :: P.zip vs) m x = _
    unfold bindL
    exact bindL_get (i := i) (List.nodup_cons.mp nd).2 (by simpa using h1) (by simpa using h2) hk
theorem bindC_get {kindOf : Str → Option NameKind} {x : Str} {v : Value} : ∀ {P : List Str} {vs : List Value} {i : Nat} {m : Str → Option Value}, P.Nodup → P[i]? = some x → vs[i]? = some v → kindOf x ≠ some .local →
    bindC kindOf (P.zip vs) m x = some v
  | [], _, _, _, _, h, _, _ => by simp at h
  | _ :: _, [], _, _, _, _, h, _ => by simp at h
  | p :: P, w :: vs, 0, m, nd, h1, h2, hk => by
    simp at h1 h2; subst h1; subst h2
    show bindC kindOf ((p, w) :: P.zip vs) m p = _
    unfold bindC
    rw [bindC_out fun v hv => (List.nodup_cons.mp nd).1 (List.of_mem_zip hv).1, if_neg hk]
    simp
  | p :: P, w :: vs, i + 1, m, nd, h1, h2, hk => by
    show bindC kindOf ((p, w) :: P.zip vs) m x = _
    unfold bindC
    exact bindC_get (i := i) (List.nodup_cons.mp nd).2 (by simpa using h1) (by simpa using h2) hk

/-- the names' values at the entry -/
noncomputable def start (N : List Str) (vs : List V) : St := vs.map some ++ List.replicate (N.length - vs.length) none

/-- the context of a def's body, at its entry; an exception leaves the frame, then lies as CX says -/
noncomputable def cxOf (CX : CXT) (P : Program) (w : World) (K : PySem.W.Frag) (mg : Str → Option Value) (base : Heap) (N : List Str) (qual : Str) (scope : Scope) (f : Addr) (cd : Value) (A : Around) (outer : List Env) (s : Shared) (H : Hp) (E : XK) : Cx where
  prog := P
  w := w
  K := K
  mg := mg
  base := base
  A := A.deeper (envOfC qual scope s.heap.objs.size f cd)
  N := N
  s₀ := s
  H₀ := H
  env := envOfC qual scope s.heap.objs.size f cd
  outer := outer
  stack := envOfC qual scope s.heap.objs.size f cd :: outer
  ex := []
  calm := true
  fn := fun _ => true
  pn := []
  xe := fun e s' => wpAny (model P w) (A.deeper (envOfC qual scope s.heap.objs.size f cd)) (leaving (envOfC qual scope s.heap.objs.size f cd) e) (fun _ s'' => CX outer H s E e s'') (fun e' s'' => CX outer H s E e' s'') s'

theorem cell_has {sc : Scope} {n : Nat} {x : Str} (h : sc.names.lookup x = some .cell) : ∃ c, (cellsFrom n sc.names []).lookup x = some c := by
  have q := PySem.W.cellsFrom_some sc.names n [] (.inl h)
  exact Option.isSome_iff_exists.mp q

theorem inv_start {CX : CXT} {P : Program} {w : World} {K : PySem.W.Frag} {mg : Str → Option Value} {base : Heap} {N ps : List Str} {qual : Str} {scope : Scope} {f : Addr} {cd : Value} {A : Around} {outer : List Env} {s s1 : Shared} {H : Hp} {E : XK} {us : List Value} {vs : List V}
    (S : FnScope N ps scope) (hd : A.handled = none) (e0 : Env0 P w K mg base A outer s H) (hl : vs.length = ps.length) (r : Vals vs us)
    (x : InCallC s s.heap.objs.size (bindL (envOfC qual scope s.heap.objs.size f cd).kindOf (ps.zip us) fun _ => none) (cellsFrom (s.heap.objs.size + 1) scope.names []) (bindC (envOfC qual scope s.heap.objs.size f cd).kindOf (ps.zip us) fun _ => none) s1) :
    Inv (cxOf CX P w K mg base N qual scope f cd A outer s H E) [] (start N vs) H s1 := by
  have hpl : ps.length ≤ N.length := by have := congrArg List.length S.pre; rw [List.length_take] at this; omega
  obtain ⟨h1, tk, rfl, hk⟩ := x.done
  have noA : ∀ b : Addr, b ∉ (cxOf CX P w K mg base N qual scope f cd A outer s H E).ex := fun b z => absurd (show b ∈ ([] : List Addr) from z) (by simp)
  refine ⟨⟨e0.mod, S.kind, rfl, rfl, Nat.le_refl _, fun y z c h1 h2 => ?_, fun y hy => ?_, fun y c _ h => ?_, fun _ => hd, Around.frames_deeper e0.frames, .inr ⟨rfl, rfl⟩, fun b z => absurd z (noA b), e0.bs, e0.bsz, fun b _ _ => noA b, fun b z => absurd z (noA b), e0.funs, e0.frf⟩,
    rfl, e0.bare, Un.kept hk, ⟨_, x.toInCall.ns, fun i y v h1 h2 h3 => ?_⟩, fun y c h => ⟨_, x.cell y c h⟩, e0.hok.fresh (Nat.le_refl _), fun y c h => ?_, fun p hp => absurd (show p ∈ ([] : List (Addr × Obj)) from hp) (by simp), e0.hok.kept hk, ?_⟩
  · exact name_of_addr x.apart (PySem.mem_of_lookup h1) (PySem.mem_of_lookup h2)
  · have hy : scope.names.lookup y = some .cell ∨ scope.names.lookup y = some .free := hy
    rcases hy with hy | hy
    · exact cell_has hy
    · exact absurd rfl (S.nofree _ (PySem.mem_of_lookup hy))
  · exact Nat.le_of_lt (x.above y c (PySem.mem_of_lookup h))
  · have hi : i < vs.length := by
      unfold start at h2
      by_cases hi : i < vs.length
      · exact hi
      · rw [List.getElem?_append_right (by simpa using hi)] at h2
        rw [List.getElem?_replicate] at h2
        split at h2 <;> cases h2
    have ha : vs[i]? = some v := by
      unfold start at h2
      rw [List.getElem?_append_left (by simpa using hi), List.getElem?_map] at h2
      cases e : vs[i]? with
      | none => rw [e] at h2; cases h2
      | some a => rw [e] at h2; cases h2; rfl
    obtain ⟨u, hu, rv⟩ := r.get ha
    have hp : ps[i]? = some y := by
      rw [← S.pre, List.getElem?_take_of_lt (by omega)]; exact h1
    have ndP : ps.Nodup := by rw [← S.pre]; exact S.nd.sublist (List.take_sublist _ _)
    refine ⟨u, rv, ?_⟩
    rcases S.par y (List.mem_of_getElem? hp) with k | k
    · exact .inl ⟨k, bindL_get ndP hp hu k⟩
    · obtain ⟨c, e⟩ := cell_has (n := s.heap.objs.size + 1) k
      refine .inr ⟨.inl k, c, e, ?_⟩
      have q := x.cell y c e
      rw [bindC_get ndP hp hu (by show scope.names.lookup y ≠ _; rw [k]; decide)] at q
      exact q
  · exact e0.hok.fresh (Nat.le_of_lt (x.above y c (PySem.mem_of_lookup h)))
  · unfold start
    show _ = N.length
    rw [List.length_append, List.length_map, List.length_replicate]
    omega

/-- THE RULE: a def (or a method) of the text, by its body. The body's reading t is chosen for each entry; it is run at the parameters' values -/
theorem fn_of {CX : CXT} {P : Program} {w : World} {K : PySem.W.Frag} {mg : Str → Option Value} {base : Heap} {k : Nat} {f : Addr} {name qual : Str} {params : Arguments} {body : List Stmt} {scope : Scope} {dV kV doc pm cdv ct oc : Value} {an od : Option Addr}
    {osl : Array (Option Value)} {N ps : List Str} {sp : Sp} (lk : K.lookup f = some ⟨oc, od, .func (PySem.W.fnOf name qual params body scope dV kV doc pm an cdv ct), osl⟩) (hcd : PySem.W.codeIn K cdv qual = true) (S : FnScope N ps scope)
    (len : ∀ vs H Q E, sp vs H Q E → vs.length = ps.length)
    (hbody : ∀ (A : Around) (outer : List Env) (s : Shared) (H : Hp) (vs : List V) (Q : VK) (E : XK), Room k (A.deeper (envOfC qual scope s.heap.objs.size f cdv)) → sp vs H Q E →
      ∃ t, PSs (cxOf CX P w K mg base N qual scope f cdv A outer s H E) body t ∧ t { nx := fun _ H' => Q .non H', rt := Q } (start N vs) H) :
    FnOk P w K mg base CX (k + 1) f (PySem.W.fnOf name qual params body scope dV kV doc pm an cdv ct) ps sp := by
  refine ⟨len, fun A outer s H args us vs Q E hr e0 hb r hsp => ?_⟩
  have hl := len _ _ _ _ hsp
  have KX : K.In s.heap := e0.mod.kin.keeps fun b o e => (e0.bs b o e).1
  have lim : s.heap.NoLimit := e0.mod.nolimit.keeps fun b o e => (e0.bs b o e).1
  have hkind : ∀ y ∈ ps.zip us, scope.names.lookup y.1 = some .local ∨ (scope.names.lookup y.1 = some .cell ∧ ((cellsFrom (s.heap.objs.size + 1) scope.names []).lookup y.1).isSome = true) := fun ⟨n, v⟩ hy => by
    rcases S.par n (List.of_mem_zip hy).1 with q | q
    · exact .inl q
    · exact .inr ⟨q, PySem.W.cellsFrom_some _ _ _ (.inl q)⟩
  refine codeAny_call_function hr.depth (KX _ _ lk) rfl S.co S.gen rfl (PySem.W.codeRec_of KX hcd) (hb _ _ _ _ ?_)
  refine wpAny_newFunctionEnv_cells S.kind hkind fun env he s1 x => ?_
  subst he
  refine ⟨lim.keeps x.toInCall.keep, codeAny_func ?_⟩
  obtain ⟨t, ht, hq⟩ := hbody A outer s H vs Q E (hr.deeper _) hsp
  have I : Inv (cxOf CX P w K mg base N qual scope f cdv A outer s H E) [] (start N vs) H s1 := inv_start S hr.hd e0 hl r x
  refine wpAny_mono (ht [] s1 (start N vs) H _ I hq) (fun fl s' hs => ?_) fun e s' hs => hs
  have fin : ∀ {σ' : St} {H' : Hp} {v : V} {u : Value}, Inv (cxOf CX P w K mg base N qual scope f cdv A outer s H E) [] σ' H' s' → RelV v u → Q v H' → CE outer P w H s Q u s' :=
    fun {σ' H' v u} J rv q => ⟨v, H', J.os, J.bare, J.base, J.hok, rv, q⟩
  cases fl with
  | ret u =>
    obtain ⟨v, σ', H', J, rv, q⟩ := hs
    exact fin J rv q
  | next =>
    obtain ⟨σ', H', J, q⟩ := hs
    exact fin (v := V.non) (u := Value.none) J rfl q
  | brk =>
    obtain ⟨_, _, _, q⟩ := hs
    exact False.elim q
  | cont =>
    obtain ⟨_, _, _, q⟩ := hs
    exact False.elim q
end L2

namespace L2
open PySem PySem.Spec PyProof.Rows
section
variable {X : Cx} {x : Str} {p pos : Pos} {e : Expr} {es : List Expr} {t : TA} {id T : String} {r : List V → Hp → VK → Prop}

noncomputable def tCB (r : List V → Hp → VK → Prop) (t : TA) : TE := fun σ H Q => t σ H fun vs H1 => r vs H1 Q
/-- f(e, ..), f a built-in function -/
theorem pe_callB (hc : CallR X (.builtin id) r) (hg : Gl X x) (hm : X.mg x = none) (hv : bootBuiltins x = some (.builtin id)) (ha : PA X (e :: es) t) (hn : x ≠ "__name__" := by decide) (hdb : (x == ("__debug__" : Str)) = false := by decide)
    (he : starEach (e :: es) X.env = (false, eval e X.env) :: starEach es X.env := by rfl) (hpl : (backTo pos (starEach es X.env)).any (·.1) = false := by rfl) : PE X (.Call (.Name x p) (e :: es) [] pos) (tCB r t) := by
  intro pins s σ H Q I h
  refine wpAny_Call_Name_kw (ld_blt I hg hm hv ?_ hn hdb)
  exact PyProof.Rows.callWith_builtin1 (thn (ha pos pins s σ H _ I h) fun us s1 ⟨vs, H1, I1, r1, q1⟩ => hc pins s1 σ H1 vs us Q I1 r1 q1) he hpl
/-- T(e, ..), T a built-in type -/
theorem pe_callTy (hc : CallR X (.type T) r) (hg : Gl X x) (hm : X.mg x = none) (hv : bootBuiltins x = some (.type T)) (ha : PA X (e :: es) t) (hn : x ≠ "__name__" := by decide) (hdb : (x == ("__debug__" : Str)) = false := by decide)
    (he : starEach (e :: es) X.env = (false, eval e X.env) :: starEach es X.env := by rfl) (hpl : (backTo pos (starEach es X.env)).any (·.1) = false := by rfl) : PE X (.Call (.Name x p) (e :: es) [] pos) (tCB r t) := by
  intro pins s σ H Q I h
  refine wpAny_Call_Name_kw (ld_blt I hg hm hv ?_ hn hdb)
  exact PyProof.Rows.callWith_type1 (thn (ha pos pins s σ H _ I h) fun us s1 ⟨vs, H1, I1, r1, q1⟩ => hc pins s1 σ H1 vs us Q I1 r1 q1) he hpl
end
end L2

namespace HT
open PySem PyProof.Rows

section
open PySem.SeqAt
open PySem.AutoSeq1 (wpAny_loadPart')
open PySem.MeetsSeq PySem.MeetsSeq2 PySem.MeetsSeq3

end

section
variable {prog : Program} {w : World} {A : Around} {E : Value → Shared → Prop} {s : Shared}

/-! ### t[a:b], not the whole -/
/-- a slice's bound as a place among n (d where it is left out) -/
noncomputable def sIx (n d : Nat) : Option Int → Nat
  | none => d
  | some v => if v < 0 then (v + (n : Int)).toNat else min v.toNat n
theorem sIx_none (n d : Nat) : sIx n d none = d := rfl
theorem sIx_nat (n d k : Nat) : sIx n d (some (k : Int)) = min k n := by
  show (if (k : Int) < 0 then ((k : Int) + (n : Int)).toNat else min (k : Int).toNat n) = min k n
  rw [if_neg (by omega), Int.toNat_natCast]
theorem sIx_le (n d : Nat) (hd : d ≤ n) (o : Option Int) : sIx n d o ≤ n := by
  cases o with
  | none => exact hd
  | some v =>
    show (if v < 0 then (v + (n : Int)).toNat else min v.toNat n) ≤ n
    by_cases hv : v < 0
    · rw [if_pos hv]; omega
    · rw [if_neg hv]; exact Nat.min_le_right _ _
theorem clip_eq (v : Int) (n d : Nat) : (if v < 0 then max (v + (n : Int)) 0 else min v (n : Int)) = ((sIx n d (some v) : Nat) : Int) := by
  show (if v < 0 then max (v + (n : Int)) 0 else min v (n : Int)) = (((if v < 0 then (v + (n : Int)).toNat else min v.toNat n) : Nat) : Int)
  by_cases hv : v < 0
  · simp only [if_pos hv]; omega
  · simp only [if_neg hv]; omega
theorem adjust_gen (lo hi : Option Int) (n : Nat) : Builtin.Slice.sliceAdjust lo hi 1 (n : Int) = (((sIx n 0 lo : Nat) : Int), ((sIx n n hi : Nat) : Int)) := by
  have h1 : ¬ ((1 : Int) < 0) := by omega
  unfold Builtin.Slice.sliceAdjust
  simp only [h1, if_false]
  refine Prod.ext ?_ ?_
  · cases lo with
    | none => rfl
    | some v => exact clip_eq v n 0
  · cases hi with
    | none => rfl
    | some v => exact clip_eq v n n
theorem places_gen (i j : Nat) : Builtin.Slice.slicePlaces (i : Int) (j : Int) 1 = j - i := by
  unfold Builtin.Slice.slicePlaces
  have h1 : (1 : Int) > 0 := by omega
  simp only [h1, if_true, Int.ediv_one]
  split <;> omega
theorem slicePart_ {v : Value} {o : Option Int} {Q : Option Int → Shared → Prop} (p : IsPart v o) (h : Q o s) : wpAny (model prog w) A (Builtin.Slice.slicePartIndex v) Q E s := by
  cases p with
  | none => exact slicePart_none h
  | int i t => exact slicePart_int h
theorem sliceApplied_gen {sl : Addr} {vl vu : Value} {lo hi : Option Int} {n : Nat} {Q : Int × Int × Nat → Shared → Prop} (hs : s.heap.IsSliceOf sl vl vu .none) (pl : IsPart vl lo) (pu : IsPart vu hi)
    (h : Q (((sIx n 0 lo : Nat) : Int), 1, sIx n n hi - sIx n 0 lo) s) : wpAny (model prog w) A (Builtin.Slice.sliceApplied (.ref sl) (pure (n : Int))) Q E s := by
  obtain ⟨os, hos, hcs, hds⟩ := id hs
  unfold Builtin.Slice.sliceApplied Builtin.Slice.sliceFields
  refine wpAny_bind (wpAny_bind (wpAny_field hos hds (x := vl) rfl (wpAny_bind (wpAny_field hos hds (x := vu) rfl (wpAny_bind (wpAny_field hos hds (x := .none) rfl (wpAny_pure ?_)))))))
  refine wpAny_bind (slicePart_none ?_)
  show wpAny _ _ (if ((1 : Int) == 0) = true then _ else _) _ _ s
  rw [if_neg (by decide)]
  refine wpAny_bind (slicePart_ pl (wpAny_bind (slicePart_ pu (wpAny_bind (wpAny_pure ?_)))))
  show wpAny _ _ (match Builtin.Slice.sliceAdjust lo hi 1 (n : Int) with | (lo, hi) => pure (lo, (1 : Int), Builtin.Slice.slicePlaces lo hi 1)) _ _ s
  rw [adjust_gen lo hi n]
  show wpAny _ _ (pure (((sIx n 0 lo : Nat) : Int), (1 : Int), Builtin.Slice.slicePlaces ((sIx n 0 lo : Nat) : Int) ((sIx n n hi : Nat) : Int) 1)) _ _ s
  rw [places_gen]
  exact wpAny_pure h
theorem pick_gen (xs : Array Value) (i k : Nat) : ((List.range k).filterMap fun (m : Nat) => xs[((i : Int) + (m : Int) * 1).toNat]?).toArray = ((xs.toList.drop i).take k).toArray := by
  have e : (fun (m : Nat) => xs[((i : Int) + (m : Int) * 1).toNat]?) = fun m => xs[i + m]? := by
    funext m
    have : ((i : Int) + (m : Int) * 1).toNat = i + m := by omega
    rw [this]
  rw [e]
  have := pick_run xs i k
  rw [List.filterMap_map] at this
  have e2 : ((fun x => xs[x]?) ∘ fun x => i + x) = fun m => xs[i + m]? := rfl
  rw [e2] at this
  rw [this]

theorem getItem_tuple_cut {t sl : Addr} {items : Array Value} {vl vu : Value} {lo hi : Option Int} {Q : Value → Shared → Prop} (ht : IsTup s.heap t items) (hs : s.heap.IsSliceOf sl vl vu .none) (pl : IsPart vl lo) (pu : IsPart vu hi)
    (hw : ¬ (sIx items.size 0 lo = 0 ∧ sIx items.size items.size hi = items.size))
    (h : Q (.ref s.heap.objs.size) { s with heap := s.heap.push { cls := .type "tuple", data := .seq ((items.toList.drop (sIx items.size 0 lo)).take (sIx items.size items.size hi - sIx items.size 0 lo)).toArray } })
    (hsz : items.size ≤ sizeLine) : wpAny (model prog w) A (getItem (.ref t) (.ref sl)) Q E s := by
  have htake : sizeOk (.seq ((items.toList.drop (sIx items.size 0 lo)).take (sIx items.size items.size hi - sIx items.size 0 lo)).toArray) := by
    show ((items.toList.drop (sIx items.size 0 lo)).take (sIx items.size items.size hi - sIx items.size 0 lo)).toArray.size ≤ sizeLine
    rw [List.size_toArray, List.length_take, List.length_drop, Array.length_toList]
    omega
  have hj : sIx items.size items.size hi ≤ items.size := sIx_le _ _ (Nat.le_refl _) hi
  obtain ⟨os, hos, hcs, hds⟩ := id hs
  have hTs : s.TypeIs (.ref sl) "slice" := ⟨os, hos, hcs⟩
  unfold getItem
  try with_reducible refine wpAny_holding ?_
  first | refine wpAny_bind (wpAny_pure ?_) | skip
  refine wpAny_bind (wpAny_sequenceKey ht.typeIs (by decide) ?_)
  refine wpAny_bind (wpAny_callSpecial?_slot (name := Str.ofString "__getitem__") ht.typeIs PyProof.Rows.slot_tuple_getitem
    (wpAny_call_entry PyProof.Rows.slot_tuple_getitem ht.typeIs entry_tuple_getitem ?_ (args_tuple_getitem _ _)))
  show wpAny _ _ (Builtin.Tuple.tupleItemsOf (.ref t) >>= _) _ _ s
  refine wpAny_bind (tupleItemsOf_ ht ?_)
  refine wpAny_bind (wpAny_typeOf hTs ?_)
  rw [if_pos (by decide)]
  refine wpAny_bind (sliceApplied_gen hs pl pu ?_)
  have hno : ¬ ((((sIx items.size 0 lo : Nat) : Int) == 0 && (1 : Int) == 1 && (sIx items.size items.size hi - sIx items.size 0 lo) == items.size) = true) := by
    intro q
    rw [Bool.and_eq_true, Bool.and_eq_true] at q
    have q1 : ((sIx items.size 0 lo : Nat) : Int) = 0 := eq_of_beq q.1.1
    have q2 : sIx items.size items.size hi - sIx items.size 0 lo = items.size := eq_of_beq q.2
    exact hw ⟨by omega, by omega⟩
  show wpAny _ _ (if (((sIx items.size 0 lo : Nat) : Int) == 0 && (1 : Int) == 1 && (sIx items.size items.size hi - sIx items.size 0 lo) == items.size) = true then _ else _) _ _ s
  rw [if_neg hno, pick_gen]
  first
    | exact wpAny_bind (m := Builtin.Tuple.tupleExact _) (wpAny_newObj_type (wpAny_pure ⟨_, rfl, wpAny_pure h⟩) htake)
    | exact wpAny_bind (m := Builtin.Tuple.tupleExact _) (wpAny_newObj_type (wpAny_bind (wpAny_pure (wpAny_pure ⟨_, rfl, wpAny_pure h⟩))) htake)
    | exact wpAny_bind (wpAny_bind (m := Builtin.Tuple.tupleExact _) (wpAny_newObj_type (wpAny_pure (wpAny_pure ⟨_, rfl, wpAny_pure h⟩)) htake))
    | exact wpAny_bind (wpAny_bind (m := Builtin.Tuple.tupleExact _) (wpAny_newObj_type (wpAny_pure ⟨_, rfl, wpAny_pure h⟩) htake))
end
end HT

namespace L2
open PySem PySem.Spec PyProof.Rows

/-! ### the parts of a slice -/
noncomputable abbrev TO := St → Hp → (Option Int → Hp → Prop) → Prop
/-- a slice's part (left out, or an int) -/
noncomputable def PO (X : Cx) (e : Option Expr) (t : TO) : Prop :=
  ∀ (pins : List (Addr × Obj)) (s : Shared) (σ : St) (H : Hp) (Q : Option Int → Hp → Prop), Inv X pins σ H s → t σ H Q →
    wpAny (model X.prog X.w) X.A (evalPart e X.env) (fun u s' => ∃ o H', Inv X pins σ H' s' ∧ IsPart u o ∧ Q o H') X.xe s
noncomputable def tNoPart : TO := fun _ H Q => Q none H
noncomputable def tPart (t : TE) : TO := fun σ H Q => t σ H fun x H1 => ∃ i, x = .int i ∧ Q (some i) H1

section
variable {X : Cx} {e : Expr} {te : TE} {lo hi : Option Expr} {tl th : TO} {pos p2 : Pos}

theorem po_none : PO X none tNoPart := by
  intro pins s σ H Q I h
  rw [evalPart_none]
  exact wpAny_pure ⟨none, H, I, .none, h⟩
theorem po_some (h : PE X e te) : PO X (some e) (tPart te) := by
  intro pins s σ H Q I hw
  rw [evalPart_some]
  refine thn (h pins s σ H _ I hw) fun u s1 ⟨x, H1, I1, r1, q1⟩ => ?_
  obtain ⟨i, rfl, q⟩ := q1
  obtain ⟨t, rfl⟩ := r1
  exact ⟨some i, H1, I1, .int i t, q⟩

/-- what a slice of a value is, by values: the slice object stands at sl -/
noncomputable def SlR (X : Cx) (r : V → Option Int → Option Int → Hp → VK → Prop) : Prop :=
  ∀ (pins : List (Addr × Obj)) (s : Shared) (σ : St) (H : Hp) (x : V) (v vl vu : Value) (lo hi : Option Int) (sl : Addr) (Q : VK), Inv X pins σ H s → RelV x v → s.heap.IsSliceOf sl vl vu .none → IsPart vl lo → IsPart vu hi → r x lo hi H Q →
    ∃ T id, typeLookup (.type T) "__getitem__" = pure (some (.builtin id)) ∧ s.TypeIs v T ∧ wpAny (model X.prog X.w) X.A (getItem v (.ref sl)) (EP X pins σ Q) X.xe s
noncomputable def tSl (r : V → Option Int → Option Int → Hp → VK → Prop) (te : TE) (tl th : TO) : TE := fun σ H Q => te σ H fun x H1 => tl σ H1 fun l H2 => th σ H2 fun u H3 => r x l u H3 Q
/-- a[lo:hi], any a -/
theorem pe_slice {r : V → Option Int → Option Int → Hp → VK → Prop} (hr : SlR X r) (he : PE X e te) (hl : PO X lo tl) (hu : PO X hi th) : PE X (.Subscript e (.Slice lo hi none p2) pos) (tSl r te tl th) := by
  intro pins s σ H Q I h
  refine Subscript_ (thn (he pins s σ H _ I h) fun v s1 ⟨x, H1, I1, r1, q1⟩ => ?_)
  refine wpAny_Slice (thn (hl pins s1 σ H1 _ I1 q1) fun vl s2 ⟨l, H2, I2, pl, q2⟩ => thn (hu pins s2 σ H2 _ I2 q2) fun vu s3 ⟨u, H3, I3, pu, q3⟩ => ?_)
  rw [evalPart_none]
  refine wpAny_pure ?_
  have I4 : Inv X pins σ H3 { s3 with heap := s3.heap.push { cls := .type "slice", data := .fields #[vl, vu, .none] } } := I3.kept (t' := s3.toks) fun b ob q => Heap.get?_push_of_some _ q
  obtain ⟨T, id, hT, ht, hg⟩ := hr pins { s3 with heap := s3.heap.push { cls := .type "slice", data := .fields #[vl, vu, .none] } } σ H3 x v vl vu l u s3.heap.objs.size Q I4 r1 (Heap.IsSliceOf.new ..) pl pu q3
  show wpAny (model X.prog X.w) X.A (subscriptTail e (.Slice lo hi none p2) v (.ref s3.heap.objs.size)) (EP X pins σ Q) X.xe { s3 with heap := s3.heap.push { cls := .type "slice", data := .fields #[vl, vu, .none] } }
  exact tail_any (ops := [.ref s3.heap.objs.size, v]) ht hT hg (by with_unfolding_all rfl)

/-- the items of xs[lo:hi] -/
noncomputable def cutV (xs : List V) (lo hi : Option Int) : List V := (xs.drop (HT.sIx xs.length 0 lo)).take (HT.sIx xs.length xs.length hi - HT.sIx xs.length 0 lo)
theorem cutV_length (xs : List V) (lo hi : Option Int) : (cutV xs lo hi).length ≤ xs.length := by
  unfold cutV
  rw [List.length_take, List.length_drop]
  omega
/-- t[lo:hi], not the whole of it (the whole would be t itself) -/
noncomputable def rSlT (K : PySem.W.Frag) : V → Option Int → Option Int → Hp → VK → Prop := fun x lo hi H Q => ∃ a xs, x = .ref a ∧ SqT K H a xs ∧
  ¬ (HT.sIx xs.length 0 lo = 0 ∧ HT.sIx xs.length xs.length hi = xs.length) ∧ ∀ p, H p = none → Q (.ref p) (upd H p (.tup (cutV xs lo hi)))
theorem sl_tup : SlR X (rSlT X.K) := by
  intro pins s σ H x v vl vu lo hi sl Q I rx hs pl pu h
  obtain ⟨a, xs, rfl, hx, hw, q⟩ := h
  cases rx
  obtain ⟨its, r, ht, hz⟩ := I.tuple hx
  have hlen : its.toArray.size = xs.length := by rw [List.size_toArray]; exact r.length.symm
  refine ⟨"tuple", _, PyProof.Rows.slot_tuple_getitem.lookup, ht.typeIs, ?_⟩
  refine HT.getItem_tuple_cut ht hs pl pu (by rw [hlen]; exact hw) ?_ (by rw [hlen]; exact hz)
  rw [hlen]
  refine ⟨.ref s.heap.objs.size, _, I.laid (t' := s.toks) (o := .tup (cutV xs lo hi)) (fun b ob q => Heap.get?_push_of_some _ q) (Nat.le_refl _) ?_, rfl, q _ (I.hok.fresh (Nat.le_refl _))⟩
  exact ⟨Nat.le_trans (cutV_length xs lo hi) hz, _, (r.drop (HT.sIx xs.length 0 lo)).take (HT.sIx xs.length xs.length hi - HT.sIx xs.length 0 lo), IsTup.new _ _⟩

/-! ### t < u, t + u -/
end
end L2

namespace L2
open PySem PySem.Spec PyProof.Rows

/-! ### places -/
/-- the place that an index of any sign means -/
noncomputable def ixN (n : Nat) (i : Int) : Option Nat := if 0 ≤ i then (if i < n then some i.toNat else none) else if -(n : Int) ≤ i then some (i + n).toNat else none
noncomputable def atI {α : Type} (xs : List α) (i : Int) : Option α := (ixN xs.length i).bind fun j => xs[j]?
theorem ixN_seq {n : Nat} {i : Int} {j : Nat} (h : ixN n i = some j) : seqIndex? i n = some j ∧ j < n ∧ -(n : Int) ≤ i ∧ i < n := by
  unfold ixN at h
  by_cases h0 : 0 ≤ i
  · rw [if_pos h0] at h
    by_cases h1 : i < n
    · rw [if_pos h1] at h
      have e : i.toNat = j := Option.some.inj h
      exact ⟨by rw [seqIndex_of h0 h1, e], by omega, by omega, h1⟩
    · rw [if_neg h1] at h; cases h
  · rw [if_neg h0] at h
    by_cases h1 : -(n : Int) ≤ i
    · rw [if_pos h1] at h
      have e : (i + n).toNat = j := Option.some.inj h
      exact ⟨by rw [seqIndex_neg (by omega) h1, e], by omega, h1, by omega⟩
    · rw [if_neg h1] at h; cases h
theorem atI_get {α : Type} {xs : List α} {i : Int} {v : α} (h : atI xs i = some v) : ∃ j, seqIndex? i xs.length = some j ∧ xs[j]? = some v ∧ j < xs.length ∧ -(xs.length : Int) ≤ i ∧ i < xs.length := by
  unfold atI at h
  cases e : ixN xs.length i with
  | none => rw [e] at h; cases h
  | some j =>
    rw [e] at h
    obtain ⟨h1, h2, h3, h4⟩ := ixN_seq e
    exact ⟨j, h1, h, h2, h3, h4⟩
theorem atI_nat {α : Type} {xs : List α} {j : Nat} {v : α} (h : xs[j]? = some v) : atI xs (j : Int) = some v := by
  have hj : j < xs.length := (List.getElem?_eq_some_iff.mp h).1
  have e : ixN xs.length (j : Int) = some j := by
    unfold ixN
    rw [if_pos (by omega), if_pos (by omega)]; simp
  unfold atI; rw [e]; exact h
/-! ### what may be subscripted -/
/-- what stands as an index of a plain subscript -/
noncomputable def PlainIx (b : Expr) : Prop := ∀ o i, subscripted b false o i = operate [o, i] (getItem o i)
/-- a subscript by values -/
noncomputable def IxR (X : Cx) (r : R2) : Prop :=
  ∀ (value slice : Expr) (pins : List (Addr × Obj)) (s : Shared) (σ : St) (H : Hp) (x y : V) (v u : Value) (Q : VK), Inv X pins σ H s → RelV x v → RelV y u → r x y H Q →
    subscripted slice false v u = operate [v, u] (getItem v u) → wpAny (model X.prog X.w) X.A (subscriptTail value slice v u) (EP X pins σ Q) X.xe s
/-- a call of a builtin's method by values: the receiver, the arguments -/
noncomputable def MtR (X : Cx) (id : String) (r : V → List V → Hp → VK → Prop) : Prop :=
  ∀ (pins : List (Addr × Obj)) (s : Shared) (σ : St) (H : Hp) (x : V) (xs : List V) (v : Value) (us : List Value) (Q : VK), Inv X pins σ H s → RelV x v → Vals xs us → r x xs H Q →
    wpAny (model X.prog X.w) X.A (call (.builtin id) (v :: us)) (EP X pins σ Q) X.xe s
section
variable {X : Cx} {a b : Expr} {ta tb : TE} {pos : Pos}
/-- a[b] -/
theorem pe_ix {r : R2} (hr : IxR X r) (ha : PE X a ta) (hb : PE X b tb) (hs : PlainIx b) : PE X (.Subscript a b pos) (tOp r ta tb) := by
  intro pins s σ H Q I h
  exact Subscript_ (binT ha hb I h fun v u s2 x y H2 I2 rx ry q => hr a b pins s2 σ H2 x y v u Q I2 rx ry q (hs _ _))

noncomputable def rIxL (K : PySem.W.Frag) : R2 := fun x y H Q => ∃ p xs i v, x = .ref p ∧ y = .int i ∧ SqL K H p xs ∧ atI xs i = some v ∧ Q v H
noncomputable def rIxT (K : PySem.W.Frag) : R2 := fun x y H Q => ∃ p xs i v, x = .ref p ∧ y = .int i ∧ SqT K H p xs ∧ atI xs i = some v ∧ Q v H
noncomputable def rIxS : R2 := fun x y H Q => ∃ z i c, x = .str z ∧ y = .int i ∧ z.length ≤ sizeLine ∧ atI z.cps.toList i = some c ∧ Q (.str ⟨#[c]⟩) H
theorem ix_list : IxR X (rIxL X.K) := by
  intro value slice pins s σ H x y v u Q I rx ry h hs
  obtain ⟨p, xs, i, z, rfl, rfl, hq, he, q⟩ := h
  cases rx
  obtain ⟨t, rfl⟩ := ry
  obtain ⟨its, r, pl, hz⟩ := I.list hq
  obtain ⟨j, h1, h2, h3, h4, h5⟩ := atI_get he
  obtain ⟨w, ew, rw'⟩ := r.get h2
  have hl := r.length
  have hn := line63
  have fin : EP X pins σ Q w s := ⟨z, H, I, rw', q⟩
  by_cases h0 : 0 ≤ i
  · have hj : i.toNat = j := by
      rw [seqIndex_of h0 h5] at h1
      exact Option.some.inj h1
    exact item_listR pl.isList h0 (by omega) (by rw [hj]; simpa using ew) fin hs
  · have hj : (i + (its.toArray.size : Int)).toNat = j := by
      rw [seqIndex_neg (by omega) h4] at h1
      rw [List.size_toArray, ← hl]
      exact Option.some.inj h1
    exact subscriptTail_builtinR (x := w) pl.isList.typeIs slot_list_getitem.lookup
      (wpAny_getItem_list_neg (Q := fun r s' => r = w ∧ EP X pins σ Q r s') pl.isList (by omega) (by rw [List.size_toArray] <;> omega) (by omega) (by rw [hj]; simpa using ew) ⟨rfl, fin⟩) hs
theorem ix_tup : IxR X (rIxT X.K) := by
  intro value slice pins s σ H x y v u Q I rx ry h hs
  obtain ⟨p, xs, i, z, rfl, rfl, hq, he, q⟩ := h
  cases rx
  obtain ⟨t, rfl⟩ := ry
  obtain ⟨its, r, pl, hz⟩ := I.tuple hq
  obtain ⟨j, h1, h2, h3, h4, h5⟩ := atI_get he
  obtain ⟨w, ew, rw'⟩ := r.get h2
  have hl := r.length
  have hn := line63
  have fin : EP X pins σ Q w s := ⟨z, H, I, rw', q⟩
  exact subscriptTail_builtinR (x := w) pl.typeIs slot_tuple_getitem.lookup
    (getItem_tuple (j := j) (Q := fun r s' => r = w ∧ EP X pins σ Q r s') pl (by omega) (by omega) (by rw [List.size_toArray, ← hl]; exact h1) (by simpa using ew) ⟨rfl, fin⟩) hs
theorem ix_str : IxR X rIxS := by
  intro value slice pins s σ H x y v u Q I rx ry h hs
  obtain ⟨z, i, c, rfl, rfl, hz, he, q⟩ := h
  obtain ⟨t, rfl⟩ := rx
  obtain ⟨t', rfl⟩ := ry
  obtain ⟨j, h1, h2, h3, h4, h5⟩ := atI_get he
  have hl : z.cps.toList.length = z.length := by simp [Str.length]
  rw [hl] at h1 h4 h5
  have hn := line63
  exact tail_any (typeIs_str s z t) slot_str_getitem.lookup (getItem_str (c := c) (by
    have e1 : decide (i < -(2 ^ 63 : Int)) = false := decide_eq_false (by omega)
    have e2 : decide (i ≥ 2 ^ 63) = false := decide_eq_false (by omega)
    rw [e1, e2, Bool.or_false]) (by rw [h1]; simpa using h2) ⟨.str ⟨#[c]⟩, H, I.tok _, ⟨_, rfl⟩, q⟩) hs
/-! ### xs[i] = v, any sign -/
/-- the list's object behind a store -/
theorem mapSeq_set (its : List Value) (n j : Nat) (u : Value) : Obj.mapSeq (·.setIfInBounds j u) { cls := .type "list", data := .seq its.toArray n } = { cls := .type "list", data := .seq (its.set j u).toArray n } := by
  simp [Obj.mapSeq]
theorem Inv.lst {pins : List (Addr × Obj)} {σ : St} {H : Hp} {s : Shared} {p : Addr} {xs : List V} (I : Inv X pins σ H s) (h : H p = some (.lst xs)) :
    ∃ (its : List Value) (n : Nat), Vals xs its ∧ s.heap.get? p = some { cls := .type "list", data := .seq its.toArray n } ∧ xs.length ≤ sizeLine := by
  obtain ⟨z, its, n, r, e⟩ := I.hok p _ h
  exact ⟨its, n, r, e, z⟩
/-- the list at p is written by an update of its object -/
theorem Inv.lstUpd {pins : List (Addr × Obj)} {σ : St} {H : Hp} {s : Shared} {p : Addr} {xs ys : List V} {its its' : List Value} {n n' : Nat} {f : Obj → Obj} (I : Inv X pins σ H s) (h : H p = some (.lst xs))
    (ho : s.heap.get? p = some { cls := .type "list", data := .seq its.toArray n }) (hf : f { cls := .type "list", data := .seq its.toArray n } = { cls := .type "list", data := .seq its'.toArray n' }) (r : Vals ys its') (hz : ys.length ≤ sizeLine) (t : Nat) :
    Inv X pins σ (upd H p (.lst ys)) { s with heap := s.heap.update p f, toks := t } := by
  have e : (s.heap.update p f).get? p = some { cls := .type "list", data := .seq its'.toArray n' } := by
    rw [Heap.get?_update_self f ho (by rw [hf] <;> rfl), hf]
  refine I.write (x := p) (e := p) (by rw [h]; trivial) (.inl rfl) (fun b u hb q => (Heap.get?_update_other _ _ (Ne.symm hb)).trans q) ⟨_, e⟩ ?_
  exact ⟨hz, its', n', r, e⟩
noncomputable def rSetL : V → V → V → Hp → (Hp → Prop) → Prop := fun o i v H Q => ∃ p xs k j, o = .ref p ∧ i = .int k ∧ H p = some (.lst xs) ∧ ixN xs.length k = some j ∧ Q (upd H p (.lst (xs.set j v)))
theorem set_list : PSet X rSetL := by
  intro pins s σ H o i v ov iv u Q I ro ri rv h
  obtain ⟨p, xs, k, j, rfl, rfl, hp, hj, q⟩ := h
  cases ro
  obtain ⟨t, rfl⟩ := ri
  obtain ⟨its, n, r, ho, hz⟩ := I.lst hp
  obtain ⟨h1, h2, h3, h4⟩ := ixN_seq hj
  have hl := r.length
  have hn := line63
  have I' : Inv X pins σ (upd H p (.lst (xs.set j v))) { s with heap := s.heap.update p (Obj.mapSeq (·.setIfInBounds j u)) } :=
    I.lstUpd hp ho (mapSeq_set its n j u) (r.set rv j) (by rw [List.length_set]; exact hz) s.toks
  by_cases h0 : 0 ≤ k
  · have hk : k.toNat = j := by
      rw [seqIndex_of h0 h4] at h1
      exact Option.some.inj h1
    exact PySem.W.ki_setAt ho h0 (by omega) (by rw [List.size_toArray, ← hl]; exact h4) (by rw [hk]; exact ⟨_, I', q⟩)
  · have hk : (k + (its.toArray.size : Int)).toNat = j := by
      rw [seqIndex_neg (by omega) h3] at h1
      rw [List.size_toArray, ← hl]
      exact Option.some.inj h1
    exact PySem.W.ki_setBack ho (by omega) (by rw [List.size_toArray, ← hl]; exact h3) (by omega) (by rw [hk]; exact ⟨_, I', q⟩)

/-! ### slices -/
theorem slice_bounds (lo hi : Option Int) (n : Nat) : (sliceBounds lo hi none n).1 = ((HT.sIx n 0 lo : Nat) : Int) ∧ (sliceBounds lo hi none n).2.1 = ((HT.sIx n n hi : Nat) : Int) ∧ (sliceBounds lo hi none n).2.2 = 1 := by
  refine ⟨?_, ?_, rfl⟩
  · cases lo with
    | none => simp [sliceBounds, HT.sIx]
    | some i =>
      simp only [sliceBounds, HT.sIx, Option.getD_none, show (1 : Int) > 0 by decide, if_true]
      by_cases h : i < 0
      · simp only [h, if_true] <;> omega
      · simp only [h, if_false] <;> omega
  · cases hi with
    | none => simp [sliceBounds, HT.sIx]
    | some i =>
      simp only [sliceBounds, HT.sIx, Option.getD_none, show (1 : Int) > 0 by decide, if_true]
      by_cases h : i < 0
      · simp only [h, if_true] <;> omega
      · simp only [h, if_false] <;> omega
theorem slicePick_cut (its : List Value) (lo hi : Option Int) : slicePick its.toArray lo hi none = ((its.drop (HT.sIx its.length 0 lo)).take (HT.sIx its.length its.length hi - HT.sIx its.length 0 lo)).toArray := by
  obtain ⟨h1, h2, h3⟩ := slice_bounds lo hi its.toArray.size
  unfold slicePick
  rw [h1, h2, h3]
  simp only [sliceRange_one, pick_run, List.size_toArray] <;> rfl
/-- xs[lo:hi] of a list: a new list -/
noncomputable def rSlL (K : PySem.W.Frag) : V → Option Int → Option Int → Hp → VK → Prop := fun x lo hi H Q => ∃ a xs, x = .ref a ∧ SqL K H a xs ∧ ∀ p, H p = none → Q (.ref p) (upd H p (.lst (cutV xs lo hi)))
theorem sl_list : SlR X (rSlL X.K) := by
  intro pins s σ H x v vl vu lo hi sl Q I rx hs pl pu h
  obtain ⟨a, xs, rfl, hx, q⟩ := h
  cases rx
  obtain ⟨its, r, ht, hz⟩ := I.list hx
  have hlen := r.length
  refine ⟨"list", _, slot_list_getitem.lookup, ht.isList.typeIs, ?_⟩
  refine wpAny_getItem_list_slice ht.isList hs pl pu .none (by simp) ?_ (by rw [List.size_toArray] <;> omega)
  rw [slicePick_cut, ← hlen]
  refine ⟨.ref s.heap.objs.size, _, I.laid (t' := s.toks) (o := .lst (cutV xs lo hi)) (fun b ob q => Heap.get?_push_of_some _ q) (Nat.le_refl _) ?_, rfl, q _ (I.hok.fresh (Nat.le_refl _))⟩
  exact ⟨Nat.le_trans (cutV_length xs lo hi) hz, _, 0, (r.drop (HT.sIx xs.length 0 lo)).take (HT.sIx xs.length xs.length hi - HT.sIx xs.length 0 lo), Heap.get?_push_size _ rfl⟩

/-! ### in, not in: flat items -/
noncomputable def flatV : V → Bool
  | .non => true
  | .bl _ => true
  | .int _ => true
  | .str _ => true
  | _ => false
/-- == of flat values -/
noncomputable def eqV : V → V → Bool
  | .non, .non => true
  | .bl a, .bl b => a == b
  | .bl a, .int b => (if a then 1 else 0) == b
  | .int a, .bl b => a == (if b then 1 else 0)
  | .int a, .int b => a == b
  | .str a, .str b => a == b
  | _, _ => false
theorem eqAt_V {A : Around} {s : Shared} {y x : V} {u v : Value} (ry : RelV y u) (rx : RelV x v) (fy : flatV y = true) (fx : flatV x = true) : SeqAt.EqAt A s u v (eqV y x) := by
  cases y with
  | non =>
    cases ry
    cases x with
    | non => cases rx; exact SeqAt.EqAt.same _
    | bl b => cases rx; exact SeqAt.EqAt.none_bool b
    | int b => obtain ⟨t, rfl⟩ := rx; exact SeqAt.EqAt.none_int b t
    | str b => obtain ⟨t, rfl⟩ := rx; exact SeqAt.EqAt.none_str b t
    | _ => exact absurd (show false = true from fx) Bool.false_ne_true
  | bl a =>
    cases ry
    cases x with
    | non => cases rx; exact SeqAt.EqAt.bool_none a
    | bl b => cases rx; exact SeqAt.EqAt.bool_bool a b
    | int b => obtain ⟨t, rfl⟩ := rx; exact SeqAt.EqAt.bool_int a b t
    | str b => obtain ⟨t, rfl⟩ := rx; exact SeqAt.EqAt.bool_str a b t
    | _ => exact absurd (show false = true from fx) Bool.false_ne_true
  | int a =>
    obtain ⟨t', rfl⟩ := ry
    cases x with
    | non => cases rx; exact SeqAt.EqAt.int_none a t'
    | bl b => cases rx; exact SeqAt.EqAt.int_bool a t' b
    | int b => obtain ⟨t, rfl⟩ := rx; exact SeqAt.EqAt.int_int a t' b t
    | str b => obtain ⟨t, rfl⟩ := rx; exact SeqAt.EqAt.int_str a t' b t
    | _ => exact absurd (show false = true from fx) Bool.false_ne_true
  | str a =>
    obtain ⟨t', rfl⟩ := ry
    cases x with
    | non => cases rx; exact SeqAt.EqAt.str_none a t'
    | bl b => cases rx; exact SeqAt.EqAt.str_bool a t' b
    | int b => obtain ⟨t, rfl⟩ := rx; exact SeqAt.EqAt.str_int a t' b t
    | str b => obtain ⟨t, rfl⟩ := rx; exact SeqAt.EqAt.str_str a t' b t
    | _ => exact absurd (show false = true from fx) Bool.false_ne_true
  | _ => exact absurd (show false = true from fy) Bool.false_ne_true
/-- the items' answers, read off the values (a value's own answer does not lean on its token) -/
noncomputable def eqU (x : V) (u : Value) : Bool := match u with
  | .none => eqV .non x
  | .bool b => eqV (.bl b) x
  | .int i _ => eqV (.int i) x
  | .str z _ => eqV (.str z) x
  | _ => false
theorem eqU_of {x y : V} {u : Value} (r : RelV y u) (f : flatV y = true) : eqU x u = eqV y x := by
  cases y with
  | non => cases r; rfl
  | bl b => cases r; rfl
  | int i => obtain ⟨t, rfl⟩ := r; rfl
  | str z => obtain ⟨t, rfl⟩ := r; rfl
  | _ => exact absurd (show false = true from f) Bool.false_ne_true
theorem any_eqU {x : V} : ∀ {xs : List V} {us : List Value}, Vals xs us → xs.all flatV = true → us.any (eqU x) = xs.any fun y => eqV y x
  | _, _, .nil, _ => rfl
  | y :: xs, u :: us, .cons r t, f => by
    rw [List.all_cons, Bool.and_eq_true] at f
    rw [List.any_cons, List.any_cons, eqU_of r f.1, any_eqU t f.2]
theorem mem_eqAt {A : Around} {s : Shared} {x : V} {v : Value} (rx : RelV x v) (fx : flatV x = true) : ∀ {xs : List V} {us : List Value}, Vals xs us → xs.all flatV = true → ∀ u ∈ us, SeqAt.EqAt A s u v (eqU x u)
  | _, _, .nil, _ => fun u hu => by cases hu
  | y :: xs, u :: us, .cons r t, f => fun u' hu => by
    rw [List.all_cons, Bool.and_eq_true] at f
    rcases List.mem_cons.mp hu with rfl | hu
    · rw [eqU_of r f.1]; exact eqAt_V r rx f.1 fx
    · exact mem_eqAt rx fx t f.2 u' hu
noncomputable def inV (x : V) (xs : List V) : Bool := xs.any fun y => eqV y x
/-- x in a list or tuple of flat items -/
noncomputable def rIn (K : PySem.W.Frag) (neg : Bool) : R2 := fun x y H Q => ∃ p xs, y = .ref p ∧ (SqL K H p xs ∨ SqT K H p xs) ∧ flatV x = true ∧ xs.all flatV = true ∧ Q (.bl (if neg then !inV x xs else inV x xs)) H
theorem op_in_seq : OpR X (compareOp .In) (rIn X.K false) := by
  intro pins s σ H x y v u Q I rx ry h
  obtain ⟨p, xs, rfl, hq, fx, fs, q⟩ := h
  cases ry
  rcases hq with hq | hq
  · obtain ⟨its, r, pl, hz⟩ := I.list hq
    refine SeqAt.in_listAt (eqU x) pl.isList (fun w hw => mem_eqAt rx fx r fs w (by simpa using hw)) ⟨.bl _, H, I, rfl, ?_⟩
    rw [show its.toArray.any (eqU x) = its.any (eqU x) by simp, any_eqU r fs]
    exact q
  · obtain ⟨its, r, pl, hz⟩ := I.tuple hq
    refine SeqAt.in_tupleAt (eqU x) pl (fun w hw => mem_eqAt rx fx r fs w (by simpa using hw)) ⟨.bl _, H, I, rfl, ?_⟩
    rw [show its.toArray.any (eqU x) = its.any (eqU x) by simp, any_eqU r fs]
    exact q
theorem op_notIn_seq : OpR X (compareOp .NotIn) (rIn X.K true) := by
  intro pins s σ H x y v u Q I rx ry h
  obtain ⟨p, xs, rfl, hq, fx, fs, q⟩ := h
  cases ry
  rcases hq with hq | hq
  · obtain ⟨its, r, pl, hz⟩ := I.list hq
    refine SeqAt.notIn_listAt (eqU x) pl.isList (fun w hw => mem_eqAt rx fx r fs w (by simpa using hw)) ⟨.bl _, H, I, rfl, ?_⟩
    rw [show its.toArray.any (eqU x) = its.any (eqU x) by simp, any_eqU r fs]
    exact q
  · obtain ⟨its, r, pl, hz⟩ := I.tuple hq
    refine SeqAt.notIn_tupleAt (eqU x) pl (fun w hw => mem_eqAt rx fx r fs w (by simpa using hw)) ⟨.bl _, H, I, rfl, ?_⟩
    rw [show its.toArray.any (eqU x) = its.any (eqU x) by simp, any_eqU r fs]
    exact q
/-! ### len, list(x), tuple(x) of any list or tuple that is read -/
theorem call_len_seq : CallR X (.builtin "len") (fun xs H Q => ∃ p ys, xs = [.ref p] ∧ (SqL X.K H p ys ∨ SqT X.K H p ys) ∧ Q (.int ys.length) H) := by
  intro pins s σ H xs us Q I r h
  obtain ⟨p, ys, rfl, hq, q⟩ := h
  obtain ⟨u, rfl, rx⟩ := vals1 r
  cases rx
  have hn := line63
  rcases hq with hq | hq
  · obtain ⟨its, r', pl, hz⟩ := I.list hq
    have hlen := r'.length
    exact Calls.call_len_list pl.isList (by simp only [List.size_toArray] <;> omega) ⟨.int ys.length, H, I.tok _, ⟨s.toks + 1, by rw [List.size_toArray, hlen]⟩, q⟩
  · obtain ⟨its, r', pl, hz⟩ := I.tuple hq
    have hlen := r'.length
    exact len_tuple pl (by simp only [List.size_toArray] <;> omega) ⟨.int ys.length, H, I.tok _, ⟨s.toks + 1, by rw [List.size_toArray, hlen]⟩, q⟩
theorem call_list_of : CallR X (.type "list") (fun xs H Q => ∃ p ys, xs = [.ref p] ∧ (SqL X.K H p ys ∨ SqT X.K H p ys) ∧ ∀ l, H l = none → Q (.ref l) (upd H l (.lst ys))) := by
  intro pins s σ H xs us Q I r h
  obtain ⟨p, ys, rfl, hq, q⟩ := h
  obtain ⟨u, rfl, rx⟩ := vals1 r
  cases rx
  have fin : ∀ (its : List Value), Vals ys its → ys.length ≤ sizeLine → ∀ (h' : Heap) (c' : Nat), (∀ b o', s.heap.get? b = some o' → h'.get? b = some o') →
      h'.get? s.heap.objs.size = some { cls := .type "list", dict := none, data := .seq its.toArray c', slots := #[] } → EP X pins σ Q (.ref s.heap.objs.size) { s with heap := h' } := fun its r' hz h' c' kp e =>
    ⟨.ref s.heap.objs.size, _, I.laid (t' := s.toks) kp (Nat.le_refl _) (show ObjOk X.prog X.w _ h' _ (.lst ys) from ⟨hz, its, c', r', e⟩), rfl, q _ (I.hok.fresh (Nat.le_refl _))⟩
  rcases hq with hq | hq
  · obtain ⟨its, r', pl, hz⟩ := I.list hq
    have hlen := r'.length
    obtain ⟨o, ho, hc, n, hd⟩ := pl.isList
    exact call_list_seq p (.inl rfl) ho hc hd (fun h' c' kp e => fin its r' hz h' c' kp e) (by simp only [List.size_toArray] <;> omega)
  · obtain ⟨its, r', pl, hz⟩ := I.tuple hq
    have hlen := r'.length
    obtain ⟨o, ho, hc, n, hd⟩ := pl
    exact call_list_seq p (.inr rfl) ho hc hd (fun h' c' kp e => fin its r' hz h' c' kp e) (by simp only [List.size_toArray] <;> omega)
/-! ### the call of a builtin's method: o.m(..) -/
/-- the value is of that builtin type -/
noncomputable def tyV (K : PySem.W.Frag) (T : String) (x : V) (H : Hp) : Prop := match x with
  | .str _ => T = "str"
  | .int _ => T = "int"
  | .ref p => (T = "list" ∧ ∃ xs, SqL K H p xs) ∨ (T = "tuple" ∧ ∃ o, K.lookup p = some o ∧ o.cls = .type "tuple" ∧ o.dict = none) ∨
      (T = "dict" ∧ ((∃ kvs, H p = some (.dK kvs)) ∨ ∃ kvs, H p = some (.dT kvs))) ∨ (T = "set" ∧ ∃ S n, H p = some (.set S n))
  | _ => False
theorem tyV_is {pins : List (Addr × Obj)} {σ : St} {H : Hp} {s : Shared} {T : String} {x : V} {v : Value} (I : Inv X pins σ H s) (r : RelV x v) (ty : tyV X.K T x H) :
    s.TypeIs v T ∧ ∀ a, v = .ref a → ∃ ob, s.heap.get? a = some ob ∧ ob.dict = none := by
  cases x with
  | str z =>
    obtain ⟨t, rfl⟩ := r
    cases (show T = "str" from ty)
    exact ⟨typeIs_str s z t, fun _ e => nomatch e⟩
  | int i =>
    obtain ⟨t, rfl⟩ := r
    cases (show T = "int" from ty)
    exact ⟨typeIs_int s i t, fun _ e => nomatch e⟩
  | ref p =>
    cases r
    rcases ty with ⟨rfl, xs, hq⟩ | ⟨rfl, o, hk, hc, hd⟩ | ⟨rfl, hk⟩ | ⟨rfl, S, n, hk⟩
    · obtain ⟨its, _, pl, _⟩ := I.list hq
      refine ⟨pl.isList.typeIs, fun a e => ?_⟩
      cases e
      obtain ⟨o, n, e, c, hd, _⟩ := pl
      exact ⟨o, e, hd⟩
    · refine ⟨⟨o, I.kIn p o hk, hc⟩, fun a e => ?_⟩
      cases e
      exact ⟨o, I.kIn _ o hk, hd⟩
    · have z : ∃ o, s.heap.get? p = some o ∧ o.ExactDict := by
        rcases hk with ⟨kvs, hk⟩ | ⟨kvs, hk⟩
        · obtain ⟨_, _, _, _, o, _, _, e, ex, _⟩ := I.hok p _ hk
          exact ⟨o, e, ex⟩
        · obtain ⟨_, _, _, _, o, _, _, e, ex, _⟩ := I.hok p _ hk
          exact ⟨o, e, ex⟩
      obtain ⟨o, e, ex⟩ := z
      refine ⟨⟨o, e, ex.1⟩, fun a e2 => ?_⟩
      cases e2
      exact ⟨o, e, ex.2.1⟩
    · obtain ⟨o, _, _, _, e, ex, _⟩ := I.hok p _ hk
      refine ⟨⟨o, e, ex.1⟩, fun a e2 => ?_⟩
      cases e2
      exact ⟨o, e, ex.2.1⟩
  | _ => exact False.elim ty
noncomputable def tBM0 (K : PySem.W.Frag) (T : String) (r : V → List V → Hp → VK → Prop) (to : TE) : TE := fun σ H Q => to σ H fun x H1 => tyV K T x H1 ∧ r x [] H1 Q
noncomputable def tBM (K : PySem.W.Frag) (T : String) (r : V → List V → Hp → VK → Prop) (to : TE) (t : TA) : TE := fun σ H Q => to σ H fun x H1 => tyV K T x H1 ∧ t σ H1 fun xs H2 => r x xs H2 Q
variable {o e : Expr} {es : List Expr} {to : TE} {t : TA} {name : Str} {apos cpos : Pos} {T id : String} {r : V → List V → Hp → VK → Prop}
theorem pe_bm0 (pa : PlainAttrs T) (slot : Slot T name id) (hty : typeOf (.builtin id) = pure (.type "method_descriptor")) (hm : MtR X id r) (ho : PE X o to)
    (hbase : attributeBase o name X.env (eval o X.env) = eval o X.env := by rfl) (hline : (apos.endLine == cpos.line) = true := by rfl) : PE X (.Call (.Attribute o name apos) [] [] cpos) (tBM0 X.K T r to) := by
  intro pins s σ H Q I h
  refine wpAny_Call_method0_late hbase hline (thn (ho pins s σ H _ I h) fun v s1 ⟨x, H1, I1, r1, ty, q1⟩ => ?_)
  obtain ⟨h1, h2⟩ := tyV_is I1 r1 ty
  exact ⟨T, id, pa, slot, hty, h1, h2, Calls.callWith_builtin rfl (PySem.evalArgs_none (hm pins s1 σ H1 x [] v [] Q I1 r1 .nil q1))⟩
theorem pe_bm (pa : PlainAttrs T) (slot : Slot T name id) (hty : typeOf (.builtin id) = pure (.type "method_descriptor")) (hm : MtR X id r) (ho : PE X o to) (ha : PA X (e :: es) t)
    (hbase : attributeBase o name X.env (eval o X.env) = eval o X.env := by rfl)
    (hfew : ((backTo cpos (starEach (e :: es) X.env)).all (fun x => !x.1) && (backToKw cpos (keywordEach [] X.env)).all (fun x => x.1.isSome)
      && decide ((e :: es).length + ([] : List Keyword).length + (if ([] : List Keyword).isEmpty then 0 else 1) < 30)) = true := by rfl)
    (hline : (apos.endLine == cpos.line) = true := by rfl) (hs : starEach (e :: es) X.env = (false, eval e X.env) :: starEach es X.env := by rfl) (hplain : (backTo cpos (starEach es X.env)).any (·.1) = false := by rfl) :
    PE X (.Call (.Attribute o name apos) (e :: es) [] cpos) (tBM X.K T r to t) := by
  intro pins s σ H Q I h
  refine wpAny_Call_method_late hbase hfew hline rfl (thn (ho pins s σ H _ I h) fun v s1 ⟨x, H1, I1, r1, ty, q1⟩ => ?_)
  obtain ⟨h1, h2⟩ := tyV_is I1 r1 ty
  refine ⟨T, id, pa, slot, hty, h1, h2, ?_⟩
  have hA := ha cpos pins s1 σ H1 _ I1 q1
  rw [hs] at hA ⊢
  refine Calls.callWith_builtin (by show (false || (backTo cpos (starEach es X.env)).any (·.1)) = false; rw [hplain] <;> rfl) (Calls.evalArgs_plain ?_)
  exact thn hA fun us s2 ⟨vs, H2, I2, r2, q2⟩ => hm pins s2 σ H2 x vs v us Q I2 r1 r2 q2
/- xs.append(e), list.index on a module's tuple .. are MtR facts of 06m -/
end
end L2

namespace L2
open PySem PySem.Spec PyProof.Rows

noncomputable def MtM (X : Cx) (id : String) (r : V → List V → Hp → VK → Prop) : Prop :=
  ∀ (pins : List (Addr × Obj)) (s : Shared) (σ : St) (H : Hp) (x : V) (xs : List V) (v : Value) (us : List Value) (Q : VK), Inv X pins σ H s → RelV x v → Vals xs us → r x xs H Q →
    wpAny (model X.prog X.w) X.A (call (.builtin id) (v :: us)) (EP X pins σ Q) X.xe s

/-! ### lists of values -/
theorem Vals.one : ∀ {x : V} {us : List Value}, Vals [x] us → ∃ u, us = [u] ∧ RelV x u
  | _, _, .cons r .nil => ⟨_, rfl, r⟩
section
variable {X : Cx} {pins : List (Addr × Obj)} {σ : St} {H : Hp} {s : Shared} {l b : Addr} {xs ys zs : List V}

/-! ### the two steps: a tracked list is rewritten, a new list is laid -/
theorem Inv.lset {its its' : List Value} {n : Nat} {f : Array Value → Array Value} {t' : Nat} (I : Inv X pins σ H s) (hH : H l = some (.lst xs))
    (e : s.heap.get? l = some { cls := .type "list", data := .seq its.toArray n }) (hf : f its.toArray = its'.toArray) (hv : Vals ys its') (hz : ys.length ≤ sizeLine) :
    Inv X pins σ (upd H l (.lst ys)) { s with heap := s.heap.update l (Obj.mapSeq f), toks := t' } := by
  have q := PySem.IsL.update e f
  rw [hf] at q
  refine I.write (x := l) (e := l) (by rw [hH]; exact trivial) (.inl rfl) (fun b' u hb hu => (Heap.get?_update_other s.heap (Obj.mapSeq f) (Ne.symm hb)).trans hu) ⟨_, q⟩ ?_
  exact ⟨hz, its', _, hv, q⟩
theorem Inv.lnew {its : List Value} {t' : Nat} (I : Inv X pins σ H s) (hv : Vals ys its) (hz : ys.length ≤ sizeLine) :
    Inv X pins σ (upd H s.heap.objs.size (.lst ys)) { s with heap := s.heap.push { cls := .type "list", data := .seq its.toArray }, toks := t' } :=
  I.laid (fun _ _ q => Heap.get?_push_of_some _ q) (Nat.le_refl _) ⟨hz, its, 0, hv, Heap.get?_push_size _ rfl⟩
theorem Inv.fresh (I : Inv X pins σ H s) : H s.heap.objs.size = none := I.hok.fresh (Nat.le_refl _)
theorem Inv.lstM (I : Inv X pins σ H s) (hH : H l = some (.lst xs)) : xs.length ≤ sizeLine ∧ ∃ (its : List Value) (n : Nat), Vals xs its ∧ xs.length = its.length ∧ s.heap.get? l = some { cls := .type "list", data := .seq its.toArray n } := by
  obtain ⟨z, its, n, r, e⟩ := I.hok l _ hH
  exact ⟨z, its, n, r, r.length, e⟩

end

section
variable {X : Cx}

/-! ### methods -/
noncomputable def rAppend : V → List V → Hp → VK → Prop := fun x vs H Q => ∃ l xs y, x = .ref l ∧ vs = [y] ∧ H l = some (.lst xs) ∧ xs.length < sizeLine ∧ Q .non (upd H l (.lst (xs ++ [y])))
theorem mt_append : MtM X "list.append" rAppend := by
  intro pins s σ H x vs v us Q I rx rv h
  obtain ⟨l, xs, y, rfl, rfl, hH, hz, q⟩ := h
  cases rx
  obtain ⟨u, rfl, ru⟩ := rv.one
  obtain ⟨z, its, n, r, hl, e⟩ := I.lstM hH
  refine call_meets F.slot_list_append ⟨_, e, rfl⟩ F.entry_list_append (F.args_list_append_2 _ _) (PySem.list_append l its.toArray n u (by rw [List.size_toArray]; omega)) ⟨e, ?_⟩
  refine ⟨.non, _, I.lset (its' := its ++ [u]) hH e (by simp) (r.append (.cons ru .nil)) ?_, rfl, q⟩
  rw [List.length_append, List.length_singleton]
  omega

/-! ### list + list, list += list, list * int -/
noncomputable def rCat : R2 := fun x y H Q => ∃ l b xs zs, x = .ref l ∧ y = .ref b ∧ H l = some (.lst xs) ∧ H b = some (.lst zs) ∧ xs.length + zs.length ≤ sizeLine ∧ ∀ p, H p = none → Q (.ref p) (upd H p (.lst (xs ++ zs)))
theorem op_cat : OpR X (binaryOp .Add) rCat := by
  intro pins s σ H x y v u Q I rx ry h
  obtain ⟨l, b, xs, zs, rfl, rfl, hH, hB, hz, q⟩ := h
  cases rx
  cases ry
  obtain ⟨z, its, n, r, hl, e⟩ := I.lstM hH
  obtain ⟨z2, its2, n2, r2, hl2, e2⟩ := I.lstM hB
  refine PySem.P.add_list e e2 ?_ (by rw [List.size_toArray, List.size_toArray]; omega)
  have ea : its.toArray ++ its2.toArray = (its ++ its2).toArray := by simp
  rw [ea]
  exact ⟨.ref _, _, I.lnew (t' := s.toks) (r.append r2) (by rw [List.length_append]; omega), rfl, q _ I.fresh⟩
/-! ### del xs[i] -/
end

/-! ### xs[a:b] = ys -/
section
variable {prog : Program} {w : World} {A : Around} {E : Value → Shared → Prop} {s : Shared}
end

section
variable {X : Cx}
end
end L2

namespace Att
open PySem PySem.W PySem.Calls PyProof.Rows

/-! ### the script -/
theorem ints_of_wellAll {P : Params} {h : Heap} : ∀ (ns : List Int) (vs : List Value), WellAll P h vs (ns.map WData.int) → IntsAre vs ns := by
  intro ns
  induction ns with
  | nil =>
    intro vs w
    rw [List.map_nil] at w
    cases w
    exact .nil
  | cons n ns ih =>
    intro vs w
    rw [List.map_cons] at w
    cases w with
    | cons a b =>
      cases a
      exact .cons _ _ (ih _ b)

theorem script_of {l : OpenLaw} {n : Nat} (hn : l.most = some n) {P : Params} {h : Heap} {args : List WData} {vals : List Value}
    (hpre : l.row.toRowW.claim.pre args = true) (hwl : WellAll P h vals args) :
    ∃ a vs ns, vals = [Value.ref a] ∧ args = [WData.list (ns.map WData.int)] ∧ h.get? a = some { cls := .type "list", data := .seq vs.toArray } ∧ IntsAre vs ns ∧ ns.length ≤ n := by
  have hsh : WShape.hasAll [] args [.list .int] = true := (pre_splitW hpre).1
  have hc : l.pre.holds [] { args := args } = true := (pre_splitW hpre).2
  obtain ⟨d, r, rfl, h1, h2⟩ := hasAllW_cons hsh
  obtain rfl := hasAllW_nil h2
  obtain ⟨xs, rfl, h3⟩ := hasW_list h1
  obtain ⟨ns, rfl⟩ := items_int h3
  have hlen : ns.length ≤ n := by
    unfold OpenLaw.pre at hc
    have h4 : (WTm.not (.lt (.lit (.int (n : Int))) (.len (.arg 0)))).holds [] { args := [.list (ns.map .int)] } = true := by
      have h4 := (holds_andW hc).1
      rw [hn] at h4
      exact h4
    have h5 := condW_of h4 (w_not (w_lt w_lit (w_len_list (w_arg rfl))))
    rw [List.length_map] at h5
    refine Nat.le_of_not_lt fun q => ?_
    have q' : (n : Int) < ((ns.length : Nat) : Int) := by omega
    first
      | (rw [decide_eq_true q'] at h5; exact absurd h5 (by decide))
      | (simp at h5; omega)
  cases hwl with
  | cons w1 w2 =>
    cases w2
    cases w1 with
    | list ho hall => exact ⟨_, _, ns, rfl, rfl, ho, ints_of_wellAll ns _ hall, hlen⟩

theorem post_true (l : OpenLaw) (args : List WData) : l.row.toRowW.claim.post args (.bool true) args = true :=
  postW_of (r := l.row.toRowW) (X := (true == true))
    (show WShape.has [] (.bool true) .bool = true by first | rfl | decide | simp [WShape.has, WShape.arms, WShape.armsAll])
    (show (WTm.eq .res (.lit (.bool true))).value [] { args := args, res := some (.bool true), after := args } = some (.bool (true == true)) from w_eq_bool (w_res rfl) w_lit) rfl

/-! ### the attachment: holds_open's last premise (the goal 'hc' behind k_head) from a wpAny of the law's body -/
/-- the same from a codeAny of the CALL (for a layer whose function contracts speak of calls) -/
theorem attach_call {l : OpenLaw} {n : Nat} {q : Program} {loose : List Str} {XP : (Str → Option Value) → Heap → Prop} {YP : World → Heap → Prop} {d : DefRec}
    (hn : l.most = some n) (hdf : d.params.defaults = [])
    (call : ∀ (w : World) (s₀ s₁ : Shared) (mg mb : Str → Option Value) (fa : Addr) (o : Obj) (pm cd doc : Value) (a : Addr) (vs : List Value) (ns : List Int),
      Ground q loose [] XP w s₀ mg mb s₁.heap → YP w s₁.heap →
      s₁.heap.get? fa = some o → o.data = .func (docDef d.name d.params d.body d.scope pm cd doc) → s₁.heap.CodeRec cd d.name → mg d.name = some (.ref fa) →
      s₁.heap.get? a = some { cls := .type "list", data := .seq vs.toArray } → IntsAre vs ns → ns.length ≤ n → s₁.gens = #[] →
      codeAny (model l.prog w) callerA (.call (.ref fa) ⟨[.ref a], []⟩) (fun r s' => r = .ok (.ret (.bool true)) ∧ OldK s₁.heap s'.heap ∧ s'.os = s₁.os ∧ AllBare s'.gens) s₁) :
    WalkO q loose XP YP l.row.toRowW d [] (fun f vs => PySem.call f vs) := by
  intro w s₀ s₁ mg mb G Y fa o pm cd doc dV kV ho hd hcd hD hmg hg args vals as hpre hlay hrd hwl hlo
  obtain rfl : dV = .none := Dflts.none hD hdf
  obtain rfl : kV = .none := Dflts.noKw hD
  obtain ⟨a, vs, ns, rfl, rfl, hobj, hints, hlen⟩ := script_of hn hpre hwl
  refine enter_call (codeAny_mono (call w s₀ s₁ mg mb fa o pm cd doc a vs ns G Y ho (fd_plain hd) hcd hmg hobj hints hlen hg) fun r s' hq => ?_)
  obtain ⟨rfl, h2, h3, h4⟩ := hq
  exact ⟨.inl ⟨.bool true, .bool true, [], rfl, fun _ => rfl, .bool true, post_true l _, fun _ => ⟨List.Pairwise.nil, fun _ hm => (nomatch hm)⟩⟩, h2, h3, h4⟩

/-! ### rules over ANY heap (no ledger) from facts about the written part K: the library's own take a ledger (News) for what they write -/
section
variable {prog : Program} {w : World} {A : Around} {E : Value → Shared → Prop} {s : Shared} {K : Frag}

/-! the whole heap as the ledger: makes every rule that writes through a ledger a rule over any heap -/
end
end Att

namespace L2
open PySem PySem.Spec PyProof.Rows

theorem vals_ints : ∀ {vs : List Value} {ns : List Int}, IntsAre vs ns → Vals (ns.map V.int) vs
  | _, _, .nil => .nil
  | _, _, .cons n t h => .cons ⟨t, rfl⟩ (vals_ints h)

/-- nothing is tracked but the script, known to the object (or it is an object of the module) -/
noncomputable def Only (H : Hp) : Prop := ∀ b, H b = none ∨ ∃ o xs, H b = some (.frz o (.lst xs))

/-- THE HEAD: the law's promise, at the heap behind the top. F, the promise of the law's def, may use that base is part of the heap (so K.In base, base.Ns mainGlobals mg stand in Mod) -/
theorem law_call {P : Program} {w : World} {K : PySem.W.Frag} {mg mb : Str → Option Value} {CX : CXT} {k : Nat} {fa a : Addr} {fd : FuncData} {x : Str} {sp : Sp} {s₁ : Shared} {vs : List Value} {ns : List Int}
    (KX : K.In s₁.heap) (hns : s₁.heap.Ns mainGlobals mg) (hb : s₁.heap.Ns builtinsNs mb) (hbb : ∀ x : Str, x ≠ "__name__" → mb x = bootBuiltins x) (hlim : s₁.heap.NoLimit) (hg : s₁.gens = #[])
    (ha : s₁.heap.get? a = some { cls := .type "list", data := .seq vs.toArray }) (hi : IntsAre vs ns) (hl : ns.length ≤ sizeLine) (hr : Room k callerA)
    (F : ∀ base : Heap, K.In base → base.Ns mainGlobals mg → FnOk P w K mg base CX k fa fd [x] sp) (hbind : ∀ (s : Shared) (u : Value), BindsTo s fd ⟨[u], []⟩ [(x, u)])
    (hsp : ∀ H : Hp, Only H → SqL K H a (ns.map V.int) → sp [.ref a] H (fun v _ => v = .bl true) fun _ _ _ => False)
    (hCX : ∀ H e s', CX [] H s₁ (fun _ _ _ => False) e s' → False) :
    codeAny (model P w) callerA (.call (.ref fa) ⟨[.ref a], []⟩) (fun r s' => r = .ok (.ret (.bool true)) ∧ OldK s₁.heap s'.heap ∧ s'.os = s₁.os ∧ AllBare s'.gens) s₁ := by
  have rv := vals_ints hi
  have lenV := hi.length
  -- from an abstract heap in which nothing but the script may be tracked
  have core : ∀ H : Hp, Only H → SqL K H a (ns.map V.int) → HOk P w H s₁.heap → (∀ b, H b ≠ none → b = a) → (H a ≠ none → K.lookup a = none) →
      codeAny (model P w) callerA (.call (.ref fa) ⟨[.ref a], []⟩) (fun r s' => r = .ok (.ret (.bool true)) ∧ OldK s₁.heap s'.heap ∧ s'.os = s₁.os ∧ AllBare s'.gens) s₁ := by
    intro H hO hS hok hA hK
    have base_of : ∀ {b : Addr} {o : Obj}, s₁.heap.get? b = some o → H b = none → (hidT s₁.heap H).get? b = some o := fun e n => hidT_get e n
    have noA : ∀ {b : Addr} {o : Obj} {es : Array DictEntry} {ep : Nat}, s₁.heap.get? b = some o → o.data = .dict es ep → H b = none := fun {b o es ep} e d => by
      cases q : H b with
      | none => rfl
      | some u =>
        have e' : b = a := hA b (by rw [q]; simp)
        subst e'
        rw [ha] at e; cases e
        have d' : Data.seq vs.toArray _ = Data.dict es ep := d
        cases d'
    have nsK : ∀ {b : Addr} {m : Str → Option Value}, s₁.heap.Ns b m → (hidT s₁.heap H).Ns b m := fun {b m} ⟨o, es, ep, e, d, r⟩ => ⟨o, es, ep, base_of e (noA e d), d, r⟩
    have hKb : K.In (hidT s₁.heap H) := fun b o e => base_of (KX b o e) (by
      cases q : H b with
      | none => rfl
      | some u =>
        have e' : b = a := hA b (by rw [q]; simp)
        subst e'
        rw [hK (by rw [q]; simp)] at e; cases e)
    have hM : Mod K mg (hidT s₁.heap H) := ⟨hKb, nsK hns, ⟨mb, nsK hb, hbb⟩, let ⟨mc, h1, h2⟩ := hlim; ⟨mc, nsK h1, h2⟩⟩
    have e0 : Env0 P w K mg (hidT s₁.heap H) callerA [] s₁ H := ⟨rfl, hM, fun b o e => of_hidT e, Nat.le_of_eq (hidT_size _ _), trivial, fun b hb => absurd (show b ∈ ([] : List Addr) from hb) (by simp), hok, .of_eq hg⟩
    refine codeAny_mono ((F _ hKb (nsK hns)).run callerA [] s₁ H ⟨[.ref a], []⟩ [.ref a] [.ref a] _ _ hr e0 (hbind s₁ (.ref a)) (.cons rfl .nil) (hsp H hO hS)) fun r s' h => ?_
    cases r with
    | error e => exact (hCX H e s' h).elim
    | ok fl =>
      cases fl with
      | next => exact False.elim h
      | brk => exact False.elim h
      | cont => exact False.elim h
      | ret u =>
        obtain ⟨v, H', os, bare, un, hok', r', q⟩ := h
        have q' : v = .bl true := q
        subst q'
        obtain rfl : u = Value.bool true := r'
        refine ⟨rfl, OldK.of_keep fun b o e => ?_, os, bare⟩
        cases q : H b with
        | none => exact un.keep b o e q (by intro z; exact absurd (show b ∈ ([] : List Addr) from z) (by simp)) (by simp)
        | some u =>
          rcases hO b with z | ⟨ob, xs, z⟩
          · rw [q] at z; cases z
          · have z2 := un.frzs b ob _ z
            obtain ⟨e1, _⟩ := hok b _ z
            obtain ⟨e2, _⟩ := hok' b _ z2
            rw [e] at e1; cases e1
            exact e2
  cases hk : K.lookup a with
  | some o =>
    -- the script is one of the module's own objects
    have e := KX a o hk
    rw [ha] at e
    cases e
    refine core (fun _ => none) (fun _ => .inl rfl) (.inr ⟨_, vs.toArray, _, hk, rfl, rfl, rfl, by rw [List.size_toArray, lenV]; exact hl, by simpa using rv⟩) (fun b u z => by have z' : (none : Option HO) = some u := z; cases z') (fun b z => absurd rfl z) fun z => absurd rfl z
  | none =>
    refine core (fun b => if b = a then some (.frz { cls := .type "list", data := .seq vs.toArray } (.lst (ns.map V.int))) else none) (fun b => ?_) (.inl (.inr ⟨{ cls := .type "list", data := .seq vs.toArray }, if_pos rfl⟩)) (fun b u z => ?_) (fun b z => ?_) fun _ => hk
    · by_cases hb : b = a
      · exact .inr ⟨_, _, if_pos hb⟩
      · exact .inl (if_neg hb)
    · by_cases hb : b = a
      · have z' := (if_pos hb).symm.trans z
        cases z'
        subst hb
        exact ⟨ha, by rw [List.length_map]; exact hl, vs, _, rv, ha⟩
      · have z' := (if_neg hb).symm.trans z
        cases z'
    · by_cases hb : b = a
      · exact hb
      · exact absurd (if_neg hb) z
end L2

namespace L2
open PySem PySem.Spec PyProof.Rows

/-- the goal that k_head leaves (case hc), from the law's promise. F gives the function object fd (K's own) once, then the promise over every base -/
theorem walk_of {l : PySem.W.OpenLaw} {n k : Nat} {q : Program} {loose : List Str} {XP : (Str → Option Value) → Heap → Prop} {YP : World → Heap → Prop} {d : DefRec} {K : Params → PySem.W.Frag} {CX : World → CXT} {sp : World → Sp} {x : Str}
    (hn : l.most = some n) (hn2 : n ≤ sizeLine) (hdf : d.params.defaults = []) (hr : Room k callerA)
    (hY : ∀ (w : World) (h : Heap), YP w h → (K w.params).In h)
    (F : ∀ (w : World) (mg : Str → Option Value) (fa : Addr) (h : Heap), (K w.params).In h → h.Ns mainGlobals mg → mg d.name = some (.ref fa) →
      ∃ fd : FuncData, (∀ (s : Shared) (u : Value), BindsTo s fd ⟨[u], []⟩ [(x, u)]) ∧
        ∀ base : Heap, (K w.params).In base → base.Ns mainGlobals mg → FnOk l.prog w (K w.params) mg base (CX w) k fa fd [x] (sp w))
    (hsp : ∀ (w : World) (H : Hp) (a : Addr) (ns : List Int), ns.length ≤ n → Only H → SqL (K w.params) H a (ns.map V.int) → sp w [.ref a] H (fun v _ => v = .bl true) fun _ _ _ => False)
    (hCX : ∀ (w : World) (H : Hp) (s : Shared) (e : Value) (s' : Shared), CX w [] H s (fun _ _ _ => False) e s' → False) :
    PySem.W.WalkO q loose XP YP l.row.toRowW d [] (fun f vs => PySem.call f vs) := by
  refine Att.attach_call hn hdf fun w s₀ s₁ mg mb fa o pm cd doc a vs ns G Y ho hd hcd hmg hobj hints hlen hg => ?_
  have KX := hY w _ Y
  obtain ⟨fd, hb, hF⟩ := F w mg fa _ KX G.T.g hmg
  exact law_call KX G.T.g G.T.b G.T.builtins G.T.nolimit hg hobj hints (Nat.le_trans hlen hn2) hr hF hb (fun H hO hS => hsp w H a ns hlen hO hS) fun H e s' => hCX w H s₁ e s'
end L2

/- THE LAST THEOREM (shape; LID, My.* are yours):
   My.Adr: a structure of the addresses that your layer names (classes, functions); My.Txt K t: a structure (Prop) of the equations over K;
   My.txt_mk : {K} {implicit addresses ..} (e1 : nsIn K mainGlobals "law" = some (some (.ref f))) (e2 : K.lookup f = some ⟨oc, od, .func (fnOf "law" "law" params body scope dV kV doc pm an cdv ct), sl⟩) (e3 : codeIn K cdv "law" = true) .. : ∃ t, My.Txt K t

set_option maxRecDepth 100000 in
set_option maxHeartbeats 0 in
theorem PySem.Challenge.cw_LID_holds : PySem.Challenge.rw_LID.Holds := by
  w_on; o_law; k_head; (case hw => w_witness2)
  k_fill
  refine L2.walk_of (l := PySem.Challenge.rw_LID) (n := 63) (k := 40) (x := "script") (CX := fun w => ..) (sp := fun _ => My.sp_law) rfl (by decide) rfl ⟨rfl, by decide, by decide⟩ (fun w h Y => PySem.W.kIn_of Y) ?F ?S ?C
  case F =>
    intro w mg fa h KX G hmg
    have T : ∃ t, My.Txt (L2.KOf KX) t := by
      dsimp only [L2.KOf]                          -- K must stand as «<heap const> w.params» for k_is
      refine' My.txt_mk ?e1 ?e2 ?e3 ..
      (case e1 => PySem.W.k_is)                    -- in the order: a name -> its address -> its object -> its parts
      (case e2 => PySem.W.k_is)
      ..
    obtain ⟨t, T⟩ := T
    have e0 := hmg.symm.trans (PySem.W.mg_of KX G T.law)
    cases e0                                       -- fa is the law's own address
    exact ⟨_, fun s u => .of_eq rfl, fun base kb nb => My.law_fn T kb nb⟩     -- if «.of_eq rfl» comes too early: refine' ⟨_, ?b, fun base kb nb => My.law_fn T kb nb⟩; exact fun s u => .of_eq rfl
  case S => exact fun w H a ns hl hO hS => ..
  case C => exact ..
(the tactic k_is has no namespace: write k_is) -/

/-! SHORT WORDS over the layer: a def of the text, its body, what a loop and a test want. -/
namespace L2
open PySem PySem.Spec PyProof.Rows

/-! ### the text by places -/
noncomputable def defArgs (s : Stmt) : Arguments := match s with
  | .FunctionDef _ a _ _ _ _ _ _ _ _ => a
  | _ => { posonlyargs := [], args := [], vararg := none, kwonlyargs := [], kw_defaults := [], kwarg := none, defaults := [] }
noncomputable def defBody (s : Stmt) : List Stmt := match s with
  | .FunctionDef _ _ b _ _ _ _ _ _ _ => b
  | _ => []
noncomputable def defScope (s : Stmt) : Scope := match s with
  | .FunctionDef _ _ _ _ _ _ sc _ _ _ => sc
  | _ => { kind := .function, names := [], isGenerator := false, isCoroutine := false }

/-! ### no exception leaves a def -/
noncomputable abbrev CX0 : CXT := fun _ _ _ _ _ _ => False
noncomputable abbrev E0 : XK := fun _ _ _ => False
theorem pass0 {X : Cx} : Passes CX0 X E0 := fun _ _ _ _ _ _ _ h => h.elim

/-! ### a def (or method) of the text as it stands behind the top -/
structure Fun (K : PySem.W.Frag) (x qual : Str) (st : Stmt) (f : Addr) (fd : FuncData) : Prop where
  ex : ∃ (oc : Value) (od : Option Addr) (kV doc pm : Value) (an : Option Addr) (cdv ct : Value) (osl : Array (Option Value)),
    fd = PySem.W.fnOf x qual (defArgs st) (defBody st) (defScope st) .none kV doc pm an cdv ct ∧ K.lookup f = some ⟨oc, od, .func fd, osl⟩ ∧ PySem.W.codeIn K cdv qual = true
  kp : PySem.W.keepIn K (.ref f) = true
section
variable {P : Program} {w : World} {K : PySem.W.Frag} {mg : Str → Option Value} {base : Heap}
/-- THE RULE for a def: its body as a term of rules, and the reading of that term -/
theorem Fun.ok {x qual : Str} {st : Stmt} {f : Addr} {fd : FuncData} {N ps : List Str} {k : Nat} {sp : Sp} (F : Fun K x qual st f fd) (S : FnScope N ps (defScope st)) (len : ∀ vs H Q E, sp vs H Q E → vs.length = ps.length)
    (hbody : ∀ (cdv : Value) (A : Around) (outer : List Env) (s : Shared) (H : Hp) (vs : List V) (Q : VK) (E : XK), Room k (A.deeper (envOfC qual (defScope st) s.heap.objs.size f cdv)) → sp vs H Q E →
      ∃ t, PSs (cxOf CX0 P w K mg base N qual (defScope st) f cdv A outer s H E).nox (defBody st) t ∧ t { nx := fun _ H' => Q .non H', rt := Q } (start N vs) H) : FnOk P w K mg base CX0 (k + 1) f fd ps sp := by
  obtain ⟨oc, od, kV, doc, pm, an, cdv, ct, osl, rfl, lk, hcd⟩ := F.ex
  refine fn_of lk hcd S len fun A outer s H vs Q E hr hsp => ?_
  obtain ⟨t, h, q⟩ := hbody cdv A outer s H vs Q E hr hsp
  exact ⟨t, h.nox, q⟩
/-- how its arguments bind (no defaults): h is «fun _ _ _ _ _ _ us hl => match us, hl with | [_, _], _ => rfl», one _ a parameter -/
theorem Fun.binds {x qual : Str} {st : Stmt} {f : Addr} {fd : FuncData} {ps : List Str} (F : Fun K x qual st f fd)
    (h : ∀ (kV doc pm : Value) (an : Option Addr) (cdv ct : Value) (us : List Value), us.length = ps.length → bindArgs (PySem.W.fnOf x qual (defArgs st) (defBody st) (defScope st) .none kV doc pm an cdv ct) ⟨us, []⟩ = pure (ps.zip us)) : Binds K fd ps [] := by
  obtain ⟨oc, od, kV, doc, pm, an, cdv, ct, osl, rfl, lk, hcd⟩ := F.ex
  exact .all (h kV doc pm an cdv ct)
theorem fun_mk {x qual : Str} {st : Stmt} {f : Addr} {oc : Value} {od an : Option Addr} {osl : Array (Option Value)} {kV doc pm cdv ct : Value} (l : K.lookup f = some ⟨oc, od, .func (PySem.W.fnOf x qual (defArgs st) (defBody st) (defScope st) .none kV doc pm an cdv ct), osl⟩)
    (c : PySem.W.codeIn K cdv qual = true) (k : PySem.W.keepIn K (.ref f) = true) : Fun K x qual st f (PySem.W.fnOf x qual (defArgs st) (defBody st) (defScope st) .none kV doc pm an cdv ct) := ⟨⟨oc, od, kV, doc, pm, an, cdv, ct, osl, rfl, l, c⟩, k⟩
end
theorem small1000 {n : Nat} (h : n ≤ 1000) : n < sizeLine := Nat.lt_of_le_of_lt h (by decide)

/-! ### expressions in short: the name that stands in the i-th slot -/
section
variable {X : Cx}
theorem pv (i : Nat) {x : Str} {pos : Pos} (hN : X.N[i]? = some x := by rfl) (hv : Vis X.env.scope x := by first | exact Or.inl rfl | exact Or.inr (Or.inl rfl) | exact Or.inr (Or.inr rfl)) (hd : (x == ("__debug__" : Str)) = false := by decide)
    (hcd : (x == ("__classdict__" : Str)) = false := by decide) : PE X (.Name x pos) (tVar i) := pe_var hN hv hd hcd
end

/-! ### tests -/
theorem iteF {A B : Prop} (h : B) : if false = true then A else B := by
  rw [if_neg Bool.false_ne_true]
  exact h
theorem iteT {A B : Prop} (h : A) : if true = true then A else B := by
  rw [if_pos rfl]
  exact h
theorem ite2 {c A B : Prop} [Decidable c] (h1 : c → A) (h2 : ¬ c → B) : if c then A else B := by
  by_cases h : c
  · rw [if_pos h]
    exact h1 h
  · rw [if_neg h]
    exact h2 h
/-! ### heaps -/
/-- all that was tracked is as it was -/
noncomputable def Same (H H' : Hp) : Prop := ∀ b o, H b = some o → H' b = some o
theorem Same.refl (H : Hp) : Same H H := fun _ _ h => h
theorem Same.trans {H H1 H2 : Hp} (a : Same H H1) (b : Same H1 H2) : Same H H2 := fun c o h => b c o (a c o h)
theorem Same.free {H H' : Hp} (e : Same H H') {l : Addr} (h : H' l = Option.none) : H l = Option.none := by
  cases q : H l with
  | none => rfl
  | some o =>
    rw [e l o q] at h
    cases h
theorem Same.seq {K : PySem.W.Frag} {H H' : Hp} {a : Addr} {xs : List V} (e : Same H H') (h : SqL K H a xs) : SqL K H' a xs := by
  rcases h with (h | ⟨o, h⟩) | h
  · exact .inl (.inl (e _ _ h))
  · exact .inl (.inr ⟨o, e _ _ h⟩)
  · exact .inr h

end L2

set_option maxHeartbeats 4000000
namespace L2
open PySem PySem.Spec PyProof.Rows

/-! ### the cells that a comprehension's block is handed -/
noncomputable def clF (cells : List (Str × Addr)) : List (Str × NameKind) → List (Str × Addr) → List (Str × Addr)
  | [], cs => cs
  | (n, k) :: r, cs => clF cells r (if k == .free then (match cells.lookup n with | some c => (n, c) :: cs | none => cs) else cs)

theorem clF_mem {cells : List (Str × Addr)} : ∀ (names : List (Str × NameKind)) (cs : List (Str × Addr)) (n : Str) (c : Addr), (n, c) ∈ clF cells names cs → (n, c) ∈ cs ∨ (cells.lookup n = some c ∧ (n, NameKind.free) ∈ names)
  | [], cs, n, c, h => .inl h
  | (m, k) :: r, cs, n, c, h => by
    rcases clF_mem r _ n c h with q | ⟨q, z⟩
    · by_cases hk : (k == NameKind.free) = true
      · rw [if_pos hk] at q
        have hk' : k = .free := by simpa using hk
        cases e : cells.lookup m with
        | none => rw [e] at q; exact .inl q
        | some d =>
          rw [e] at q
          rcases List.mem_cons.mp q with z | z
          · cases z; exact .inr ⟨e, by rw [hk']; exact List.mem_cons_self⟩
          · exact .inl z
      · rw [if_neg hk] at q; exact .inl q
    · exact .inr ⟨q, List.mem_cons_of_mem _ z⟩
theorem clF_sub {cells : List (Str × Addr)} : ∀ (names : List (Str × NameKind)) (cs : List (Str × Addr)), ∀ p ∈ cs, p ∈ clF cells names cs
  | [], cs, p, h => h
  | (m, k) :: r, cs, p, h => by
    refine clF_sub r _ p ?_
    by_cases hk : (k == NameKind.free) = true
    · rw [if_pos hk]
      cases cells.lookup m with
      | none => exact h
      | some d => exact List.mem_cons_of_mem _ h
    · rw [if_neg hk]; exact h
theorem clF_has {cells : List (Str × Addr)} : ∀ (names : List (Str × NameKind)) (cs : List (Str × Addr)) (n : Str) (c : Addr), (n, NameKind.free) ∈ names → cells.lookup n = some c → (n, c) ∈ clF cells names cs
  | [], _, _, _, h, _ => nomatch h
  | (m, k) :: r, cs, n, c, h, e => by
    rcases List.mem_cons.mp h with z | z
    · cases z
      refine clF_sub r _ _ ?_
      rw [if_pos (by rfl), e]
      exact List.mem_cons_self
    · exact clF_has r _ n c z e
theorem lookup_isSome_of_mem {β : Type} : ∀ {l : List (Str × β)} {n : Str} {c : β}, (n, c) ∈ l → ∃ d, l.lookup n = some d
  | (m, d) :: r, n, c, h => by
    cases e : n == m with
    | true => exact ⟨d, by simp [List.lookup_cons, e]⟩
    | false =>
      have e' : n ≠ m := by simpa using e
      rcases List.mem_cons.mp h with z | z
      · cases z; exact absurd rfl e'
      · obtain ⟨q, hq⟩ := lookup_isSome_of_mem z
        exact ⟨q, by simp [List.lookup_cons, e, hq]⟩
theorem clF_lookup {cells : List (Str × Addr)} {names : List (Str × NameKind)} {n : Str} {c : Addr} (h : (clF cells names []).lookup n = some c) : cells.lookup n = some c ∧ (n, NameKind.free) ∈ names := by
  rcases clF_mem names [] n c (PySem.mem_of_lookup h) with z | z
  · cases z
  · exact z
theorem closure_eq {env : Env} {scope : Scope} (hf : ∀ n, (n, NameKind.free) ∈ scope.names → ∃ c, env.cells.lookup n = some c) : closureFor scope env = pure (clF env.cells scope.names []) := by
  have go : ∀ (l : List (Str × NameKind)) (cs : List (Str × Addr)), (∀ n, (n, NameKind.free) ∈ l → ∃ c, env.cells.lookup n = some c) →
      (forIn l cs (fun x r => match x with | (name, kind) => if (kind == NameKind.free) = true then do
        let y ← cellOf env name
        pure (ForInStep.yield ((name, y) :: r)) else pure (ForInStep.yield r)) : Sem (List (Str × Addr))) = pure (clF env.cells l cs) := by
    intro l
    induction l with
    | nil => intro cs _; rfl
    | cons x r ih =>
      intro cs h
      obtain ⟨n, k⟩ := x
      rw [List.forIn_cons]
      by_cases hk : (k == NameKind.free) = true
      · have hk' : k = .free := by simpa using hk
        obtain ⟨c, e⟩ := h n (by rw [hk']; exact List.mem_cons_self)
        have ec : cellOf env n = pure c := by unfold cellOf; rw [e]
        simp only [hk, if_true, ec, pure_bind]
        rw [ih _ fun m hm => h m (List.mem_cons_of_mem _ hm)]
        show _ = pure (clF env.cells r _)
        rw [if_pos hk, e]
      · have hk' : (k == NameKind.free) = false := by simpa using hk
        have e1 := ih cs fun m hm => h m (List.mem_cons_of_mem _ hm)
        show (((if (k == NameKind.free) = true then _ else pure (ForInStep.yield cs)) : Sem _) >>= _) = _
        rw [if_neg hk, pure_bind]
        refine Eq.trans e1 ?_
        show _ = pure (clF env.cells r _)
        rw [if_neg hk]
  unfold closureFor
  have := go scope.names [] hf
  rw [bind_pure]
  exact this
end L2

namespace L2
open PySem PySem.Spec PyProof.Rows

/-- a comprehension's own scope against the block around it -/
structure CScope (X : Cx) (xs : List Str) (sc : Scope) : Prop where
  kind : sc.kind = .function
  nocell : ∀ y ∈ sc.names, y.2 ≠ .cell
  names : ∀ y ∈ sc.names, y.2 = .local → sc.names.lookup y.1 = some .local
  own : ∀ x ∈ xs, sc.names.lookup x = some .local
  sep : ∀ y ∈ X.N, sc.names.lookup y ≠ some .local
  frees : ∀ y ∈ sc.names, y.2 = .free → X.env.kindOf y.1 = some .cell ∨ X.env.kindOf y.1 = some .free
  nd : (xs ++ X.N).Nodup

/-- the context of a comprehension's block -/
noncomputable def cxC (X : Cx) (xs : List Str) (sc : Scope) (ex : List Addr) (s : Shared) (H : Hp) : Cx where
  prog := X.prog
  w := X.w
  K := X.K
  mg := X.mg
  base := X.base
  A := X.A
  N := xs ++ X.N
  s₀ := s
  H₀ := H
  env := compEnvC sc (clF X.env.cells sc.names []) s.heap.objs.size X.env
  outer := X.stack
  stack := X.stack
  ex := ex
  fn := fun _ => false
  calm := X.calm
  pn := []
  xe := fun _ _ => False

theorem lookup_relabel (env : Env) (x : Str) : ∀ names : List (Str × NameKind),
    (names.map fun (n, k) => if (k == NameKind.free && env.scope.kind == .function && env.kindOf n == some .cell) then (n, NameKind.cell) else (n, k)).lookup x =
      (names.lookup x).map fun k => if (k == NameKind.free && env.scope.kind == .function && env.kindOf x == some .cell) then NameKind.cell else k
  | [] => rfl
  | (n, k) :: r => by
    have ih := lookup_relabel env x r
    show List.lookup x ((if (k == NameKind.free && env.scope.kind == .function && env.kindOf n == some .cell) = true then (n, NameKind.cell) else (n, k)) :: _) = _
    cases hx : x == n with
    | true =>
      have e : x = n := by simpa using hx
      subst e
      by_cases hc : (k == NameKind.free && env.scope.kind == .function && env.kindOf x == some .cell) = true
      · rw [if_pos hc]
        simp only [List.lookup_cons, hx, Option.map_some]
        rw [if_pos hc]
      · rw [if_neg hc]
        simp only [List.lookup_cons, hx, Option.map_some]
        rw [if_neg hc]
    | false =>
      by_cases hc : (k == NameKind.free && env.scope.kind == .function && env.kindOf n == some .cell) = true
      · rw [if_pos hc]; simp only [List.lookup_cons, hx]; exact ih
      · rw [if_neg hc]; simp only [List.lookup_cons, hx]; exact ih

/-- a name of the block around, seen in the comprehension, is a free one -/
theorem vis_relabel {sc : Scope} {env : Env} {x : Str} (h : Vis (relabel sc env) x) (hl : sc.names.lookup x ≠ some .local) (hc : ∀ y ∈ sc.names, y.2 ≠ .cell) :
    (x, NameKind.free) ∈ sc.names ∧ ((relabel sc env).names.lookup x = some .cell ∨ (relabel sc env).names.lookup x = some .free) := by
  have e : (relabel sc env).names.lookup x = _ := lookup_relabel env x sc.names
  unfold Vis at h
  rw [e] at h
  cases k : sc.names.lookup x with
  | none => rw [k] at h; simp at h
  | some v =>
    have mem := PySem.mem_of_lookup k
    have nl : v ≠ .local := fun z => hl (by rw [k, z])
    have ncl : v ≠ .cell := fun z => hc _ mem z
    rw [k] at h
    rw [e, k]
    simp only [Option.map_some] at h ⊢
    by_cases hv : v = .free
    · subst hv
      refine ⟨mem, ?_⟩
      split
      · exact .inl rfl
      · exact .inr rfl
    · have : (v == NameKind.free) = false := by simpa using hv
      simp only [this, Bool.false_and] at h
      rcases h with h | h | h
      · exact absurd (Option.some.inj h) nl
      · exact absurd (Option.some.inj h) ncl
      · exact absurd (Option.some.inj h) hv

section
variable {X : Cx} {pins : List (Addr × Obj)} {σ : St} {H : Hp} {s : Shared} {xs : List Str} {sc : Scope} {ex : List Addr}
theorem CScope.cells (S : CScope X xs sc) (ok : X.Ok) : ∀ n, (n, NameKind.free) ∈ sc.names → ∃ c, X.env.cells.lookup n = some c := fun n h => ok.has n (S.frees _ h rfl)
theorem cxC_ok (S : CScope X xs sc) (I : Inv X pins σ H s) (he : ∀ b ∈ ex, b < s.heap.objs.size ∧ b ∉ frs X.stack ∧ (∀ x c, X.env.cells.lookup x = some c → c ≠ b) ∧ X.base.get? b = none) : (cxC X xs sc ex s H).Ok := by
  refine ⟨I.ok.mod, S.kind, I.ok.glob, I.ok.blt, Nat.le_refl _, fun x y c h1 h2 => ?_, fun x hx => ?_, fun _ _ h => (by cases h), I.ok.hd, I.ok.frames, .inl rfl, fun b hb => ⟨Nat.ne_of_lt (he b hb).1, fun x c h => (he b hb).2.2.1 x c (clF_lookup h).1⟩, fun b o e => ?_, ?_, fun b o e hb => ?_, fun b hb => (he b hb).2.1, I.stack, I.stkFree⟩
  · exact I.ok.inj x y c (clF_lookup h1).1 (clF_lookup h2).1
  · have hv : (relabel sc X.env).names.lookup x = some .cell ∨ (relabel sc X.env).names.lookup x = some .free := hx
    have q : (x, NameKind.free) ∈ sc.names := by
      have e : (relabel sc X.env).names.lookup x = _ := lookup_relabel X.env x sc.names
      rw [e] at hv
      cases k : sc.names.lookup x with
      | none => rw [k] at hv; simp at hv
      | some v =>
        have mem := PySem.mem_of_lookup k
        rw [k] at hv
        simp only [Option.map_some] at hv
        by_cases hvf : v = .free
        · rw [hvf] at mem; exact mem
        · have : (v == NameKind.free) = false := by simpa using hvf
          simp only [this, Bool.false_and] at hv
          rcases hv with h | h
          · exact absurd (Option.some.inj h) (S.nocell _ mem)
          · exact absurd (Option.some.inj h) hvf
    obtain ⟨c, e⟩ := S.cells I.ok x q
    exact lookup_isSome_of_mem (clF_has sc.names [] x c q e)
  · exact I.bs b o e
  · exact Nat.le_trans I.ok.bsz I.sz
  · have q : X.base.get? b = none := (he b hb).2.2.2
    have e' : X.base.get? b = some o := e
    rw [q] at e'; cases e'

/-- the block's first state -/
theorem inv_comp {h₁ : Heap} {tk : Nat} (S : CScope X xs sc) (I : Inv X pins σ H s) (he : ∀ b ∈ ex, b < s.heap.objs.size ∧ b ∉ frs X.stack ∧ (∀ x c, X.env.cells.lookup x = some c → c ≠ b) ∧ X.base.get? b = none)
    (hn : h₁.Ns s.heap.objs.size (fun _ => none)) (hk : ∀ b o, s.heap.get? b = some o → h₁.get? b = some o) :
    Inv (cxC X xs sc ex s H) [] (List.replicate xs.length none ++ σ) H { s with heap := h₁, toks := tk } := by
  have I1 : Inv X pins σ H { s with heap := h₁, toks := tk } := I.kept hk
  refine ⟨cxC_ok S I he, rfl, I.bare, Un.kept hk, ⟨_, hn, fun i x v h1 h2 h3 => ?_⟩, fun x c h => I1.cell x c (clF_lookup h).1, I.hok.fresh (Nat.le_refl _), fun x c h => I.freeC x c (clF_lookup h).1, fun p hp => absurd (show p ∈ ([] : List (Addr × Obj)) from hp) (by simp), I.hok.kept hk, ?_⟩
  · have h1' : (xs ++ X.N)[i]? = some x := h1
    by_cases hi : i < xs.length
    · rw [List.getElem?_append_left (by simpa using hi), List.getElem?_replicate, if_pos hi] at h2
      cases h2
    · have hi' : xs.length ≤ i := Nat.le_of_not_lt hi
      rw [List.getElem?_append_right (by simpa using hi')] at h2
      rw [List.getElem?_append_right hi'] at h1'
      rw [List.length_replicate] at h2
      have hm : x ∈ X.N := List.mem_of_getElem? h1'
      obtain ⟨hf, hkd⟩ := vis_relabel h3 (S.sep x hm) S.nocell
      have hko := S.frees _ hf rfl
      obtain ⟨m, _, hl⟩ := I1.loc
      obtain ⟨u, r, l⟩ := hl (i - xs.length) x v h1' h2 (by
        rcases hko with z | z
        · exact .inr (.inl z)
        · exact .inr (.inr z))
      refine ⟨u, r, .inr ⟨hkd, ?_⟩⟩
      rcases l with ⟨z, _⟩ | ⟨_, c, ec, hc⟩
      · rcases hko with q | q <;> (rw [q] at z; cases z)
      · obtain ⟨d, ed⟩ := lookup_isSome_of_mem (clF_has sc.names [] x c hf ec)
        have : c = d := by
          have := (clF_lookup ed).1
          rw [ec] at this
          exact Option.some.inj this
        subst this
        exact ⟨c, ed, hc⟩
  · show (List.replicate xs.length none ++ σ).length = (xs ++ X.N).length
    rw [List.length_append, List.length_append, List.length_replicate, I.len]
end
end L2

namespace L2
open PySem PySem.Spec PyProof.Rows

section
variable {prog : Program} {w : World} {A : Around} {R : Result → Shared → Prop} {s : Shared}
/-- a comprehension's loop, no exception leaving it -/
theorem compLoop_of {elt target iter : Expr} {ifs : List Expr} {scope : Scope} {pos : Pos} {it acc : Value} {env : Env} (I : Nat → Shared → Prop)
    (turn : ∀ n s, I n s → wpAny (model prog w) A (pyNext it) (fun r s₁ => match r with
      | none => R (.ok .next) s₁
      | some v => wpAny (model prog w) A (letOwnedTupleGo target it v) (fun _ s₁' => wpAny (model prog w) A (assign target env v) (fun _ s₂ =>
          wpAny (model prog w) A (forIn ifs true fun c r => if r = true then do let ok ← isTrue c env (eval c env); pure (ForInStep.yield ok) else pure (ForInStep.yield r)) (fun ok s₃ =>
            if ok = true then wpAny (model prog w) A (eval elt env) (fun x s₄ =>
              wpAny (model prog w) A (call (.builtin "list.append") [acc, x]) (fun _ s₅ => ∃ m, m < n ∧ I m s₅) (fun _ _ => False) s₄) (fun _ _ => False) s₃
            else ∃ m, m < n ∧ I m s₃) (fun _ _ => False) s₂) (fun _ _ => False) s₁') (fun _ _ => False) s₁) (fun _ _ => False) s)
    (n : Nat) (h : I n s) :
    codeAny (model prog w) A (.compLoop (.ListComp elt [⟨target, iter, ifs, 0⟩] scope pos) 0 it acc env) R s := by
  refine codeAny_loop rfl I (fun n s hI => ?_) n h
  show wpAny _ A ((compTurn (.ListComp elt [⟨target, iter, ifs, 0⟩] scope pos) 0 it acc env).onRaise (fun x => do noteFrame x env; theTreesLotGoes x)) _ _ s
  refine wpAny_noted ?_
  rw [compTurn_list]
  refine wpAny_bind (wpAny_standAt (wpAny_bind (wpAny_mono (turn n s hI) (fun r s₁ h₁ => ?_) fun _ _ h' => h'.elim)))
  cases r with
  | none => exact wpAny_pure h₁
  | some v =>
    refine wpAny_bind (wpAny_mono h₁ (fun _ s₁' h₁' => ?_) fun _ _ h' => h'.elim)
    refine wpAny_bind (wpAny_mono h₁' (fun _ s₂ h₂ => wpAny_bind (wpAny_mono h₂ (fun ok s₃ h₃ => ?_) fun _ _ h' => h'.elim)) fun _ _ h' => h'.elim)
    cases ok with
    | false => exact wpAny_pure ⟨rfl, h₃⟩
    | true =>
      exact wpAny_bind (wpAny_bind (wpAny_mono h₃ (fun x s₄ h₄ => wpAny_bind (wpAny_mono h₄ (fun _ s₅ h₅ => wpAny_pure (wpAny_pure ⟨rfl, h₅⟩)) fun _ _ h' => h'.elim)) fun _ _ h' => h'.elim))
end

/-- the tests of a clause -/
noncomputable def PTs (X : Cx) (ifs : List Expr) (t : TT) : Prop :=
  ∀ (pins : List (Addr × Obj)) (s : Shared) (σ : St) (H : Hp) (Q : Bool → Hp → Prop), Inv X pins σ H s → t σ H Q →
    wpAny (model X.prog X.w) X.A (forIn ifs true fun c r => if r = true then do let ok ← isTrue c X.env (eval c X.env); pure (ForInStep.yield ok) else pure (ForInStep.yield r)) (TP X pins σ Q) X.xe s
noncomputable def tYes : TT := fun _ H Q => Q true H
theorem pts_nil {X : Cx} : PTs X [] tYes := fun _ _ _ H _ I h => wpAny_tests_nil ⟨H, I, h⟩
theorem pts_one {X : Cx} {c : Expr} {t : TT} (h : PT X c t) : PTs X [c] t := fun pins s σ H Q I q => wpAny_tests_one (h pins s σ H Q I q)

section
variable {X : Cx} {pins : List (Addr × Obj)} {σ : St} {H : Hp} {s2 : Shared} {tg iter elt : Expr} {ifs : List Expr} {sc : Scope} {pos : Pos} {xs : List Str} {g : TG} {tc : TT} {te : TE} {J : It} {fp : List Addr} {it : Addr} {tn : Nat → Heap → Prop}
/-- a list object that stands untracked is taken into the tracked ones -/
theorem HOk.adopt {P : Program} {w : World} {H : Hp} {h : Heap} {a : Addr} {xs : List V} {its : List Value} {n : Nat} (x : HOk P w H h) (hn : H a = none) (hz : xs.length ≤ sizeLine) (r : Vals xs its) (e : h.get? a = some { cls := .type "list", data := .seq its.toArray n }) :
    HOk P w (upd H a (.lst xs)) h := fun b u q => by
  by_cases hb : b = a
  · subst hb; rw [upd_same] at q; cases q; exact ⟨hz, its, n, r, e⟩
  · rw [upd_ne hb] at q
    exact (x b u q).stay (fun c v _ q => q) (fun c q => by rw [upd_ne (ne_of_none q hn)]; exact q) fun c xs q => by rw [upd_ne (ne_of_none q hn)]; exact q

theorem comp_core {E : Value → Shared → Prop} {RR : Value → Addr → Result → Shared → Prop} (S : CScope X xs sc) (hcalm : X.calm = true)
    (hg : ∀ ex s3 H3, PG (cxC X xs sc ex s3 H3) tg g) (ht : ∀ ex s3 H3, PTs (cxC X xs sc ex s3 H3) ifs tc) (he : ∀ ex s3 H3, PE (cxC X xs sc ex s3 H3) elt te)
    (I : Inv X pins σ H s2) (T : Turn X.prog X.w X.K tg J fp it tn) (st : tn 0 s2.heap) (f2 : ∀ b ∈ fp, FpOk X pins H b)
    (W : Nat → Nat → List V → Hp → Prop) (w0 : ∃ m, W 0 m [] H) (F : List V → Hp → Prop)
    (turn : ∀ i m acc H, W i m acc H → (J.stop i H ∧ acc.length ≤ sizeLine ∧ F acc H) ∨
      (J.go i H ∧ acc.length < sizeLine ∧ ∃ N : List V → Hp → Prop, (∀ acc' H', N acc' H' → ∃ m', m' < m ∧ W (i + 1) m' acc' H') ∧ ∀ x H', J.yld i H x H' → g x (List.replicate xs.length none ++ σ) H' fun σ2 H2 => σ2.drop xs.length = σ ∧ tc σ2 H2 fun c H3 =>
        if c = true then te σ2 H3 fun y H4 => N (acc ++ [y]) H4 else N acc H3))
    (fin : ∀ D C s' acc H', (∃ m, s'.heap.Ns C m) → FpOk X pins (upd H' D (.lst acc)) C → F acc H' → H' D = none → Inv X pins σ (upd H' D (.lst acc)) s' → RR (.ref D) C (.ok .next) s') :
    wpAny (model X.prog X.w) X.A (newList []) (fun acc s3 => wpAny (model X.prog X.w) X.A (newFunctionEnv sc X.env.globals (clF X.env.cells sc.names []) [] X.env.qual none .none (some X.env)) (fun cenv s4 =>
      codeAny (model X.prog X.w) X.A (.compStart (.ListComp elt [⟨tg, iter, ifs, 0⟩] sc pos) 0 (.ref it) acc { cenv with scope := relabel sc X.env }) (RR acc cenv.locals) s4) E s3) E s2 := by
  refine wpAny_newObj_type (wpAny_newFunctionEnv S.nocell (by intro y hy; simp at hy) (fun h₁ hns₁ hsb₁ => ?_) S.kind)
  dsimp only at hns₁ hsb₁ ⊢
  generalize hH3 : s2.heap.push { cls := .type "list", dict := none, data := .seq ([] : List Value).toArray } = H3 at hns₁ hsb₁ ⊢
  have hC : H3.objs.size = s2.heap.objs.size + 1 := by rw [← hH3, Heap.size_push]
  have hDC : s2.heap.objs.size ≠ H3.objs.size := by rw [hC]; exact Nat.ne_of_lt (Nat.lt_succ_self _)
  have old3 : ∀ b o, s2.heap.get? b = some o → H3.get? b = some o := fun b o e => hH3 ▸ Heap.get?_push_of_some _ e
  have k1 : ∀ b o, H3.get? b = some o → h₁.get? b = some o := fun b o e => hsb₁.extBut b o (Nat.ne_of_lt (Heap.lt_size e)) (Heap.get?_push_of_some _ e)
  have I3 : Inv X pins σ H { s2 with heap := H3 } := I.kept old3
  have fpLt : ∀ b ∈ fp, b < s2.heap.objs.size := fun b hb => by
    obtain ⟨o, e, _⟩ := T.obj _ _ st b hb
    exact Heap.lt_size e
  have hnofr : ∀ b, s2.heap.objs.size ≤ b → b ∉ frs X.stack := fun b hb z => by
    rcases List.mem_cons.mp (I.stkSub b z) with q | q
    · exact absurd (Nat.lt_of_lt_of_le I.lt hb) (by rw [q]; exact Nat.lt_irrefl _)
    · exact I.nofs hb q
  have hnocell : ∀ b, s2.heap.objs.size ≤ b → ∀ x c, X.env.cells.lookup x = some c → c ≠ b := fun b hb x c e z => by
    obtain ⟨v, q⟩ := I.cell x c e
    exact absurd (Nat.lt_of_lt_of_le q.lt (by rw [z]; exact hb)) (Nat.lt_irrefl _)
  have hnobase : ∀ b, s2.heap.objs.size ≤ b → X.base.get? b = none := fun b hb => Heap.get?_none_of_le (Nat.le_trans (Nat.le_trans I.ok.bsz I.sz) hb)
  have fpfr : ∀ b ∈ fp, b ∉ frs X.stack := fun b hb z => by
    rcases List.mem_cons.mp (I.stkSub b z) with q | q
    · exact (f2 b hb).2.1 q
    · exact (f2 b hb).2.2.1 q
  have fpbase : ∀ b ∈ fp, X.base.get? b = none := fun b hb => by
    rcases (f2 b hb).2.2.2.1 with z | z
    · cases e : X.base.get? b with
      | none => rfl
      | some o => exact absurd z (I.ok.noex b o e)
    · exact Heap.get?_none_of_le (Nat.le_trans I.ok.bsz z)
  have hex : ∀ b ∈ (s2.heap.objs.size :: fp), b < H3.objs.size ∧ b ∉ frs X.stack ∧ (∀ x c, X.env.cells.lookup x = some c → c ≠ b) ∧ X.base.get? b = none := fun b hb => by
    rcases List.mem_cons.mp hb with z | z
    · subst z
      exact ⟨by rw [hC]; exact Nat.lt_succ_self _, hnofr _ (Nat.le_refl _), hnocell _ (Nat.le_refl _), hnobase _ (Nat.le_refl _)⟩
    · exact ⟨by rw [hC]; exact Nat.lt_succ_of_lt (fpLt b z), fpfr b z, (f2 b z).2.2.2.2.1, fpbase b z⟩
  have I4 := inv_comp (ex := s2.heap.objs.size :: fp) (tk := s2.toks + ([] : List (Str × Value)).length) S I3 hex hns₁ k1
  generalize hX' : cxC X xs sc (s2.heap.objs.size :: fp) { s2 with heap := H3 } H = X' at I4
  have hDn : H s2.heap.objs.size = none := I.hok.fresh (Nat.le_refl _)
  have hDobj : h₁.get? s2.heap.objs.size = some { cls := .type "list", data := .seq (([] : List Value)).toArray 0 } := k1 _ _ (hH3 ▸ Heap.get?_push_size _ rfl)
  have st1 : tn 0 h₁ := T.keep _ _ _ st fun b _ o e => k1 b o (old3 b o e)
  obtain ⟨m0, w0⟩ := w0
  -- the block's facts about D and the iterator, whatever the state
  have eXex : X'.ex = s2.heap.objs.size :: fp := by rw [← hX']; rfl
  have eXloc : X'.env.locals = H3.objs.size := by rw [← hX']; rfl
  have eXfs : X'.fs = frs X.stack := by rw [← hX']; rfl
  have eXcl : X'.env.cells = clF X.env.cells sc.names [] := by rw [← hX']; rfl
  have eXpn : X'.pn = [] := by rw [← hX']; rfl
  have eXm : X'.prog = X.prog ∧ X'.w = X.w ∧ X'.K = X.K ∧ X'.calm = true ∧ X'.A = X.A ∧ X'.xe = fun _ _ => False := by rw [← hX']; exact ⟨rfl, rfl, rfl, hcalm, rfl, rfl⟩
  obtain ⟨eP, ew, eK, ec, eA, exe⟩ := eXm
  have envE : X'.env = { newEnv sc H3.objs.size X.env.globals (clF X.env.cells sc.names []) X.env.qual none .none (some X.env) builtinsNs with scope := relabel sc X.env } := by rw [← hX']; rfl
  have hg' : PG X' tg g := hX' ▸ hg _ _ _
  have ht' : PTs X' ifs tc := hX' ▸ ht _ _ _
  have he' : PE X' elt te := hX' ▸ he _ _ _
  have hs0 : X'.s₀.heap = H3 := by rw [← hX']; rfl
  have hH0 : X'.H₀ = H := by rw [← hX']; rfl
  have hos : X'.s₀.os = s2.os := by rw [← hX']; rfl
  have loop : ∀ s₃ : Shared, s₃ = { s2 with heap := h₁, toks := s2.toks + ([] : List (Str × Value)).length } →
      codeAny (model X.prog X.w) X.A (.compLoop (.ListComp elt [⟨tg, iter, ifs, 0⟩] sc pos) 0 (.ref it) (.ref s2.heap.objs.size) X'.env) (RR (.ref s2.heap.objs.size) H3.objs.size) s₃ := by
    rintro s₃ rfl
    refine compLoop_of (fun n s' => ∃ i acc its k H', Inv X' [] (List.replicate xs.length none ++ σ) H' s' ∧ tn i s'.heap ∧ (∀ b ∈ fp, H' b = none) ∧ H' s2.heap.objs.size = none ∧ Vals acc its ∧
      s'.heap.get? s2.heap.objs.size = some { cls := .type "list", data := .seq its.toArray k } ∧ W i n acc H') ?_ m0
      ⟨0, [], [], 0, H, I4, st1, fun b hb => (f2 b hb).1, hDn, .nil, hDobj, w0⟩
    rintro n s' ⟨i, acc, its, k, H', I', st', fr', hD', rv, hobj, w'⟩
    have fpok : ∀ {o : Obj} {H'' : Hp}, (∀ b ∈ fp, H'' b = none) → ∀ b ∈ fp, FpOk X' [(s2.heap.objs.size, o)] H'' b := fun {o H''} hn b hb => by
      refine ⟨hn b hb, by rw [eXloc, hC]; exact Nat.ne_of_lt (Nat.lt_succ_of_lt (fpLt b hb)), by rw [eXfs]; exact fpfr b hb, .inl (by rw [eXex]; exact List.mem_cons_of_mem _ hb), fun x c e => ?_, fun p hp => ?_⟩
      · rw [eXcl] at e
        exact (f2 b hb).2.2.2.2.1 x c (clF_lookup e).1
      · rw [eXpn] at hp
        have : p = (s2.heap.objs.size, o) := by simpa using hp
        rw [this]
        exact Nat.ne_of_gt (fpLt b hb)
    have pinD : ∀ {H'' : Hp} {s'' : Shared} {σ'' : St} {o : Obj}, Inv X' [] σ'' H'' s'' → s''.heap.get? s2.heap.objs.size = some o → (∀ v, o.data ≠ .cell v) → H'' s2.heap.objs.size = none → Inv X' [(s2.heap.objs.size, o)] σ'' H'' s'' := fun {H'' s'' σ'' o} J e d hn =>
      J.pins_of fun p hp => by
        have : p = (s2.heap.objs.size, o) := by simpa using hp
        rw [this]
        exact ⟨e, hn, by rw [eXloc]; exact hDC, by rw [eXfs]; exact hnofr _ (Nat.le_refl _), d⟩
    have J := pinD I' hobj (fun v => by intro z; cases z) hD'
    rw [← eP, ← ew, ← eA]
    rcases turn i n acc H' w' with ⟨stop, hz, hF⟩ | ⟨go, hz, N, hN, step⟩
    · have q1 : wpAny (model X'.prog X'.w) X'.A (pyNext (.ref it)) (fun r s1 => r = none ∧ Inv X' [(s2.heap.objs.size, { cls := .type "list", data := .seq its.toArray k })] (List.replicate xs.length none ++ σ) H' s1) (fun _ _ => False) s' := by
        have := T.done X' eP ew eK ec i _ s' _ H' (fun _ _ => False) J (fpok fr') st' stop
        rw [eP, ew]; exact this
      refine thn q1 fun r s1 h1 => ?_
      obtain ⟨hr, J1⟩ := h1
      subst hr
      have e1 := J1.pin (s2.heap.objs.size, { cls := .type "list", data := .seq its.toArray k }) (List.mem_append_right _ List.mem_cons_self)
      -- back to the block around
      have un : Un (frs X.stack) (s2.heap.objs.size :: fp) H H' H3 s1.heap := by
        have := J1.base
        rw [eXfs, eXex, hH0, hs0] at this
        exact this
      have hok1 : HOk X.prog X.w H' s1.heap := by have := J1.hok; rw [eP, ew] at this; exact this
      obtain ⟨mC, hmC, _⟩ := J1.loc
      have hmC' : s1.heap.Ns H3.objs.size mC := by rw [eXloc] at hmC; exact hmC
      have hCfree : H' H3.objs.size = none := by have := J1.free; rw [eXloc] at this; exact this
      refine fin _ _ s1 acc H' ⟨mC, hmC'⟩ ?_ hF e1.2.1 ?_
      · refine I.fpOk (by rw [hC]; exact Nat.le_succ _) ?_
        rw [upd_ne (Ne.symm hDC)]
        exact hCfree
      · refine I.call' (ch := fp) (J1.os.trans hos) ?_ (hok1.adopt e1.2.1 hz rv e1.1) J1.bare fun b hb => ⟨(f2 b hb).2.2.2.1, (f2 b hb).2.1, (f2 b hb).2.2.2.2.1, (f2 b hb).2.2.2.2.2⟩
        have below : ∀ b o, s2.heap.get? b = some o → b ≠ s2.heap.objs.size := fun b o e => Nat.ne_of_lt (Heap.lt_size e)
        have nin : ∀ b o, s2.heap.get? b = some o → b ∉ fp → b ∉ s2.heap.objs.size :: fp := fun b o e hb z => (List.mem_cons.mp z).elim (below b o e) hb
        have trkne : ∀ b u, H b = some u → b ≠ s2.heap.objs.size := fun b u e z => by rw [z, hDn] at e; cases e
        refine ⟨fun b o e n hf hb => un.keep b o (old3 b o e) n hf (nin b o e hb), fun b o e n hf hb => un.slot b o (old3 b o e) n hf (nin b o e hb), fun b o e n hb => ?_, fun b o e hb => un.there b o (old3 b o e) (nin b o e hb), fun b ys e => ?_, fun b o u e => ?_, fun b ps e => ?_⟩
        · rw [upd_ne (below b o e)]; exact un.free b o (old3 b o e) n (nin b o e hb)
        · rw [upd_ne (trkne b _ e)]; exact un.tups b ys e
        · rw [upd_ne (trkne b _ e)]; exact un.frzs b o u e
        · rw [upd_ne (trkne b _ e)]; exact un.tbls b ps e
    · have q1 := T.item X' eP ew eK ec i _ s' _ H' (fun _ _ => False) J (fpok fr') st' go
      rw [← eP, ← ew] at q1
      have q2 := q1
      refine thn q2 fun r s1 h1 => ?_
      obtain ⟨u, hr, h4⟩ := h1
      subst hr
      dsimp only
      refine thn h4 fun _ s5 ⟨x, H5, J5, r5, y5, st5, fr5⟩ => ?_
      have J5' := J5.pinned (fpok fr5) (T.obj _ _ st5)
      have q5 := hg' _ s5 _ H5 x u _ J5' r5 (step x H5 y5)
      rw [exe] at q5
      refine thn q5 fun _ s6 ⟨σ6, H6, J6, hσ, q6⟩ => ?_
      have q7 := ht' _ s6 σ6 H6 _ J6 q6
      rw [exe] at q7
      refine thn q7 fun ok s7 ⟨H7, J7, q7⟩ => ?_
      -- the state behind a turn
      have lenσ : ∀ {H8 : Hp} {s8 : Shared} {pl : List (Addr × Obj)}, Inv X' pl σ6 H8 s8 → (List.replicate xs.length none ++ σ).length = σ6.length := fun {H8 s8 pl} J8 => J6.len.symm ▸ I4.len
      have weak : ∀ {H8 : Hp} {s8 : Shared} {pl : List (Addr × Obj)}, Inv X' pl σ6 H8 s8 → Inv X' pl (List.replicate xs.length none ++ σ) H8 s8 := fun {H8 s8 pl} J8 => by
        refine J8.weak (lenσ J8) fun j v e => ?_
        by_cases hj : j < xs.length
        · rw [List.getElem?_append_left (by simpa using hj), List.getElem?_replicate, if_pos hj] at e
          cases e
        · have hj' : xs.length ≤ j := Nat.le_of_not_lt hj
          rw [List.getElem?_append_right (by simpa using hj'), List.length_replicate, ← hσ, List.getElem?_drop] at e
          rw [← e]
          congr 1
          omega
      have back : ∀ {H8 : Hp} {s8 : Shared}, Inv X' ([(s2.heap.objs.size, { cls := .type "list", data := .seq its.toArray k })] ++ pinsAt fp s5.heap) σ6 H8 s8 →
          Inv X' [] (List.replicate xs.length none ++ σ) H8 s8 ∧ tn (i + 1) s8.heap ∧ (∀ b ∈ fp, H8 b = none) ∧ H8 s2.heap.objs.size = none ∧ s8.heap.get? s2.heap.objs.size = some { cls := .type "list", data := .seq its.toArray k } := fun {H8 s8} J8 => by
        have eD := J8.pin (s2.heap.objs.size, { cls := .type "list", data := .seq its.toArray k }) (List.mem_append_right _ (List.mem_append_left _ List.mem_cons_self))
        refine ⟨(weak J8).pins_of fun p hp => absurd hp (by simp), T.keep _ _ _ st5 fun b hb o e => (J8.pin (b, o) (List.mem_append_right _ (List.mem_append_right _ (mem_pinsAt hb e)))).1, fun b hb => ?_, eD.2.1, eD.1⟩
        obtain ⟨o, e, d⟩ := T.obj _ _ st5 b hb
        exact (J8.pin (b, o) (List.mem_append_right _ (List.mem_append_right _ (mem_pinsAt hb e)))).2.1
      cases ok with
      | false =>
        simp only [Bool.false_eq_true, if_false] at q7 ⊢
        obtain ⟨m', hm, w7⟩ := hN _ _ q7
        obtain ⟨a1, a2, a3, a4, a5⟩ := back J7
        exact ⟨m', hm, i + 1, acc, its, k, H7, a1, a2, a3, a4, rv, a5, w7⟩
      | true =>
        simp only [if_true] at q7 ⊢
        have q8 := he' _ s7 σ6 H7 _ J7 q7
        rw [exe] at q8
        refine thn q8 fun u8 s8 ⟨y, H8, J8, r8, q9⟩ => ?_
        obtain ⟨m', hm, w8⟩ := hN _ _ q9
        obtain ⟨a1, a2, a3, a4, a5⟩ := back J8
        have hits : its.length = acc.length := rv.length.symm
        refine wpAny_list_append_plain (hsz := by show its.toArray.size ≤ sizeLine; rw [List.size_toArray, hits]; exact Nat.le_of_lt hz) ⟨k, a5⟩ fun h9 hl9 hs9 => ?_
        obtain ⟨k9, e9⟩ := hl9
        refine ⟨m', hm, i + 1, acc ++ [y], its ++ [u8], k9, H8, ?_, ?_, a3, a4, rv.append (.cons r8 .nil), ?_, w8⟩
        · exact a1.turned (t' := s8.toks) (fun b o hb e => hs9.extBut b o hb e) a4 (by rw [eXloc]; exact hDC) (.inl (by rw [eXex]; exact List.mem_cons_self)) (fun x c e => by rw [eXcl] at e; exact hnocell _ (Nat.le_refl _) x c (clF_lookup e).1) (fun p hp => by rw [eXpn] at hp; simp at hp)
        · exact T.keep _ _ _ a2 fun b hb o e => hs9.extBut b o (Nat.ne_of_lt (fpLt b hb)) e
        · rw [e9]
          congr 2
          simp
  rw [show { newEnv sc H3.objs.size X.env.globals (clF X.env.cells sc.names []) X.env.qual none .none (some X.env) builtinsNs with scope := relabel sc X.env } = X'.env from envE.symm]
  exact codeAny_compStart_list (loop _ rfl) (T.self X.A 0 _ _ _ st1 (loop _ rfl))
end
end L2

namespace L2
open PySem PySem.Spec PyProof.Rows

/-- [elt for tg in iter if ..]: W the word by the turn, a measure, and what is gathered -/
noncomputable def LCW (n : Nat) (J : It) (g : TG) (tc : TT) (te : TE) (σ : St) (H1 : Hp) (F : List V → Hp → Prop) : Prop :=
  ∃ W : Nat → Nat → List V → Hp → Prop, (∃ m, W 0 m [] H1) ∧ ∀ i m acc H, W i m acc H → (J.stop i H ∧ acc.length ≤ sizeLine ∧ F acc H) ∨
    (J.go i H ∧ acc.length < sizeLine ∧ ∃ N : List V → Hp → Prop, (∀ acc' H', N acc' H' → ∃ m', m' < m ∧ W (i + 1) m' acc' H') ∧ ∀ x H', J.yld i H x H' → g x (List.replicate n none ++ σ) H' fun σ2 H2 => σ2.drop n = σ ∧ tc σ2 H2 fun c H3 =>
      if c = true then te σ2 H3 fun y H4 => N (acc ++ [y]) H4 else N acc H3)
noncomputable def tLC (n : Nat) (wi : TI) (g : TG) (tc : TT) (te : TE) : TE := fun σ H Q => wi σ H fun J H1 => LCW n J g tc te σ H1 fun acc H => ∀ p, H p = none → Q (.ref p) (upd H p (.lst acc))

section
variable {X : Cx} {tg iter elt : Expr} {ifs : List Expr} {sc : Scope} {pos : Pos} {xs : List Str} {wi : TI} {g : TG} {tc : TT} {te : TE}
theorem FpOk.turn {pins : List (Addr × Obj)} {σ : St} {H : Hp} {s : Shared} {C : Addr} {h' : Heap} (f : FpOk X pins H C) (I : Inv X pins σ H s) (hs : Heap.SameBut C s.heap h') : Inv X pins σ H { s with heap := h' } :=
  I.turned (t' := s.toks) (fun b o hb e => hs.extBut b o hb e) f.1 f.2.1 f.2.2.2.1 f.2.2.2.2.1 f.2.2.2.2.2
theorem pe_comp (S : CScope X xs sc) (hc : X.calm = true) (hi : PI X tg iter wi) (hg : ∀ ex s3 H3, PG (cxC X xs sc ex s3 H3) tg g) (ht : ∀ ex s3 H3, PTs (cxC X xs sc ex s3 H3) ifs tc) (he : ∀ ex s3 H3, PE (cxC X xs sc ex s3 H3) elt te)
    (hs : ∀ x, foldedSetIterable iter X.env x = pure x := by intro _; rfl) : PE X (.ListComp elt [⟨tg, iter, ifs, 0⟩] sc pos) (tLC xs.length wi g tc te) := by
  intro pins s σ H Q I h
  rw [eval_ListComp]
  refine wpAny_comprehension_free (use := none) rfl hs (closure_eq (S.cells I.ok)) S.kind S.names (thn (hi pins s σ H _ I h) fun v s1 h1 => thn h1 fun itv s2 h2 => ?_)
  obtain ⟨it, fp, tn, J, H2, e, I2, T, st2, f2, W, w0, turn⟩ := h2
  subst e
  refine comp_core (RR := fun acc C => compPost (model X.prog X.w) X.A X.xe none (EP X pins σ Q) acc C) S hc hg ht he I2 T st2 f2 W w0 _ turn fun D C s' acc H' hns fC hF hD IF => ?_
  obtain ⟨m, hm⟩ := hns
  exact ⟨m, hm, fun h' hs' => ⟨.ref D, _, fC.turn IF hs', rfl, hF D hD⟩⟩
/-- x = [..], the name stored ahead of the block's own names let go -/
theorem ps_comp {i : Nat} {y : Str} {pos' spos : Pos} (S : CScope X xs sc) (hc : X.calm = true) (hN : X.N.Nodup) (hy : X.N[i]? = some y) (hk : X.env.scope.names.lookup y = some .local)
    (hi : PI X tg iter wi) (hg : ∀ ex s3 H3, PG (cxC X xs sc ex s3 H3) tg g) (ht : ∀ ex s3 H3, PTs (cxC X xs sc ex s3 H3) ifs tc) (he : ∀ ex s3 H3, PE (cxC X xs sc ex s3 H3) elt te)
    (hsw : swapsWith (.ListComp elt [⟨tg, iter, ifs, 0⟩] sc pos) (some (.Name y pos')) spos.line X.env = pure true := by rfl)
    (hs : ∀ x, foldedSetIterable iter X.env x = pure x := by intro _; rfl) : PS X (.Assign [.Name y pos'] (.ListComp elt [⟨tg, iter, ifs, 0⟩] sc pos) spos) (tAsg (tLC xs.length wi g tc te) (gName i)) := by
  intro pins s σ H D I h
  rw [exec_Assign_Name_used _ _ _ _ hsw]
  refine wpAny_bind (wpAny_standAt (wpAny_bind ?_))
  show wpAny _ X.A (do let _ ← comprehension (.ListComp elt [⟨tg, iter, ifs, 0⟩] sc pos) sc X.env _ (newList []) false (eval iter X.env) (some (assign (.Name y pos') X.env))) _ _ s
  refine wpAny_bind (wpAny_mono (wpAny_comprehension_free (use := some (assign (.Name y pos') X.env)) (Q := fun _ s' => SP X pins D .next s') rfl hs (closure_eq (S.cells I.ok)) S.kind S.names
    (thn (hi pins s σ H _ I h) fun v s1 h1 => thn h1 fun itv s2 h2 => ?_)) (fun _ s' hq => wpAny_pure (wpAny_pure hq)) fun _ _ e => e)
  obtain ⟨it, fp, tn, J, H2, e, I2, T, st2, f2, W, w0, turn⟩ := h2
  subst e
  refine comp_core (RR := fun acc C => compPost (model X.prog X.w) X.A X.xe (some (assign (.Name y pos') X.env)) (fun _ s' => SP X pins D .next s') acc C) S hc hg ht he I2 T st2 f2 W w0 _ turn fun D' C s' acc H' hns fC hF hD IF => ?_
  obtain ⟨m, hm⟩ := hns
  refine wpAny_assign_Name (store_ok2 (v := .ref D') IF hN hy (.inl hk) rfl (fun s'' I'' hsb => ?_) (.inr hk))
  obtain ⟨a, hsb, ha⟩ := hsb
  have hne : C ≠ a := by
    rcases ha with z | z
    · rw [z]; exact fC.2.1
    · exact fun q => fC.2.2.2.2.1 y a z q.symm
  refine ⟨m, hm.sameBut hsb hne, fun h' hs' => ⟨_, _, fC.turn I'' hs', hF D' hD⟩⟩
end

/-! ### the forms one uses -/
theorem lc_list {K : PySem.W.Frag} {a : Addr} {xs : List V} {n : Nat} {g : TG} {tc : TT} {te : TE} {σ : St} {H : Hp} {F : List V → Hp → Prop} (Pv : Nat → List V → Hp → Prop) (hn : xs.length ≤ 1000000) (h0 : Pv 0 [] H)
    (hl : ∀ i acc H, i ≤ xs.length → Pv i acc H → SqL K H a xs ∧ acc.length ≤ i)
    (hs : ∀ i x acc H, xs[i]? = some x → Pv i acc H → g x (List.replicate n none ++ σ) H fun σ2 H2 => σ2.drop n = σ ∧ tc σ2 H2 fun c H3 => if c = true then te σ2 H3 fun y H4 => Pv (i + 1) (acc ++ [y]) H4 else Pv (i + 1) acc H3)
    (hd : ∀ acc H, Pv xs.length acc H → F acc H) : LCW n (Itl K a) g tc te σ H F := by
  have sz : (1000000 : Nat) < sizeLine := by rw [sizeLine_eq]; decide
  refine ⟨fun i m acc H => m = xs.length - i ∧ i ≤ xs.length ∧ Pv i acc H, ⟨xs.length, by simp, Nat.zero_le _, h0⟩, ?_⟩
  rintro i m acc H ⟨rfl, hi, p⟩
  have q := hl i acc H hi p
  by_cases hlt : i < xs.length
  · refine .inr ⟨⟨xs, xs[i], q.1, by simp [hlt]⟩, by omega, Pv (i + 1), fun acc' H' p' => ⟨xs.length - (i + 1), by omega, rfl, hlt, p'⟩, fun x H' y => ?_⟩
    obtain ⟨e, y⟩ := y
    subst e
    exact hs i x acc _ (y xs q.1) p
  · have e : i = xs.length := by omega
    subst e
    exact .inl ⟨⟨xs, q.1, Nat.le_refl _⟩, by omega, hd acc H p⟩
theorem lc_range {lo : Int} {k : Nat} {n : Nat} {g : TG} {tc : TT} {te : TE} {σ : St} {H : Hp} {F : List V → Hp → Prop} (Pv : Nat → List V → Hp → Prop) (hn : k ≤ 1000000) (h0 : Pv 0 [] H)
    (hl : ∀ i acc H, i ≤ k → Pv i acc H → acc.length ≤ i)
    (hs : ∀ i acc H, i < k → Pv i acc H → g (.int (lo + i)) (List.replicate n none ++ σ) H fun σ2 H2 => σ2.drop n = σ ∧ tc σ2 H2 fun c H3 => if c = true then te σ2 H3 fun y H4 => Pv (i + 1) (acc ++ [y]) H4 else Pv (i + 1) acc H3)
    (hd : ∀ acc H, Pv k acc H → F acc H) : LCW n (Itr lo k) g tc te σ H F := by
  have sz : (1000000 : Nat) < sizeLine := by rw [sizeLine_eq]; decide
  refine ⟨fun i m acc H => m = k - i ∧ i ≤ k ∧ Pv i acc H, ⟨k, by simp, Nat.zero_le _, h0⟩, ?_⟩
  rintro i m acc H ⟨rfl, hi, p⟩
  have q := hl i acc H hi p
  by_cases hlt : i < k
  · refine .inr ⟨hlt, by omega, Pv (i + 1), fun acc' H' p' => ⟨k - (i + 1), by omega, rfl, hlt, p'⟩, fun x H' y => ?_⟩
    obtain ⟨e, y⟩ := y
    subst e y
    exact hs i acc _ hlt p
  · have e : i = k := by omega
    subst e
    exact .inl ⟨Nat.le_refl _, by omega, hd acc H p⟩
end L2

namespace L2
open PySem PySem.Spec PyProof.Rows

section
variable {prog : Program} {w : World} {A : Around} {E : Value → Shared → Prop} {s : Shared}
end

section
variable {X : Cx} {pos : Pos}
/-- isinstance(x, T), T a built-in type -/
theorem call_isinst : CallR X (.builtin "isinstance") (fun xs H Q => ∃ x n t b, xs = [x, .ty n] ∧ TyOf X.K H x t ∧ PySem.W.kitOne X.K t (.type n) = some b ∧ Q (.bl b) H) := by
  intro pins s σ H xs us Q I r h
  obtain ⟨x, n, t, b, rfl, ty, e, q⟩ := h
  obtain ⟨u, v, rfl, rx, ry⟩ := vals2 r
  obtain rfl : v = Value.type n := ry
  exact isinst_ok I rx ty e fun tk => ⟨.bl b, H, I.tok tk, rfl, q⟩
/-- n.bit_length() -/
theorem mt_bitlen : MtR X "int.bit_length" (fun x xs H Q => ∃ i, x = .int i ∧ xs = [] ∧ Q (.int ((Builtin.Int.intBits i : Nat) : Int)) H) := by
  intro pins s σ H x xs v us Q I rx rs h
  obtain ⟨i, rfl, rfl, q⟩ := h
  obtain ⟨t, rfl⟩ := rx
  cases rs
  exact call_int_bit_length ⟨.int _, H, I.tok _, ⟨_, rfl⟩, q⟩
end
end L2

namespace L2
open PySem PySem.Spec PyProof.Rows

/-! ### small words -/
/-- all but what stands at st is as it was -/
noncomputable def But (st : Addr) (H H' : Hp) : Prop := ∀ b o, H b = some o → b ≠ st → H' b = some o
theorem But.refl (st : Addr) (H : Hp) : But st H H := fun _ _ h _ => h
theorem Same.new {H : Hp} {p : Addr} {o : HO} (h : H p = none) : Same H (upd H p o) := fun b u e => by rw [upd_ne (ne_of_none e h)]; exact e
theorem nat_of {x : Int} {n : Nat} (h0 : 0 ≤ x) (h1 : x < (n : Int)) : ∃ r : Nat, x = (r : Int) ∧ r < n := ⟨x.toNat, by omega, by omega⟩
/-! ### sets as naturals -/
theorem bitAnd_nat (a b : Nat) : Builtin.bitAnd (a : Int) (b : Int) = ((a &&& b : Nat) : Int) := by
  simp [Builtin.bitAnd]
theorem bitNot_not (x : Int) : Builtin.bitNot (Builtin.bitNot x) = x := by unfold Builtin.bitNot; omega
theorem bitOr_nat (a b : Nat) : Builtin.bitOr (a : Int) (b : Int) = ((a ||| b : Nat) : Int) := by
  have ha : ¬ 0 ≤ Builtin.bitNot (a : Int) := by unfold Builtin.bitNot; omega
  have hb : ¬ 0 ≤ Builtin.bitNot (b : Int) := by unfold Builtin.bitNot; omega
  unfold Builtin.bitOr
  simp only [Builtin.bitAnd, ha, hb, decide_false, bitNot_not, Int.toNat_natCast]
theorem two_pow_int (k : Nat) : ((2 : Int) ^ k) = ((2 ^ k : Nat) : Int) := by simp
end L2

namespace L2
open PySem PySem.Spec PyProof.Rows
/-- what is asked of a comprehension's scope, reckoned -/
noncomputable def cscB (N xs : List Str) (osc sc : Scope) : Bool :=
  decide (sc.kind = .function) && sc.names.all (fun y => decide (y.2 ≠ .cell)) && sc.names.all (fun y => decide (y.2 ≠ .local) || decide (sc.names.lookup y.1 = some .local)) && xs.all (fun x => decide (sc.names.lookup x = some .local)) &&
    N.all (fun y => decide (sc.names.lookup y ≠ some .local)) && sc.names.all (fun y => decide (y.2 ≠ .free) || (decide (osc.names.lookup y.1 = some .cell) || decide (osc.names.lookup y.1 = some .free))) && decide ((xs ++ N).Nodup)
theorem cs {X : Cx} {xs : List Str} {sc : Scope} (N : List Str) (osc : Scope) (hN : X.N = N) (ho : X.env.scope = osc) (h : cscB N xs osc sc = true) : CScope X xs sc := by
  unfold cscB at h
  simp only [Bool.and_eq_true, List.all_eq_true, decide_eq_true_eq, Bool.or_eq_true] at h
  obtain ⟨⟨⟨⟨⟨⟨h1, h2⟩, h3⟩, h4⟩, h5⟩, h6⟩, h7⟩ := h
  refine ⟨h1, h2, fun y hy e => ?_, h4, by rw [hN]; exact h5, fun y hy e => ?_, by rw [hN]; exact h7⟩
  · rcases h3 y hy with z | z
    · exact absurd e z
    · exact z
  · rcases h6 y hy with z | z
    · exact absurd e z
    · show X.env.scope.names.lookup y.1 = _ ∨ X.env.scope.names.lookup y.1 = _
      rw [ho]; exact z
end L2

namespace L2
open PySem PySem.Spec PyProof.Rows
theorem mod_lo (x : Int) {m : Int} (h : 0 < m) : 0 ≤ x % m := Int.emod_nonneg _ (by omega)
theorem mod_hi (x : Int) {m : Int} (h : 0 < m) : x % m < m := Int.emod_lt_of_pos _ h
/-! ### columns of a set, as naturals -/
noncomputable def vN (k : Nat) : V := V.int (k : Int)
noncomputable def hasB (a k : Nat) : Bool := decide (a / 2 ^ k % 2 = 1)
noncomputable def bitsN (a : Nat) : Nat := Builtin.Int.intBits (a : Int)
noncomputable def colsN (a : Nat) : List Nat := (List.range (bitsN a)).filter (hasB a)
theorem bitsN_le {a : Nat} (h : a < 2 ^ 20) : bitsN a ≤ 20 := by
  unfold bitsN Builtin.Int.intBits
  split
  · omega
  · rename_i z
    have h0 : a ≠ 0 := by intro e; subst e; exact z rfl
    have : a.log2 < 20 := (Nat.log2_lt h0).mpr h
    show (a : Int).natAbs.log2 + 1 ≤ 20
    rw [Int.natAbs_natCast]
    omega
theorem dec_nat (a b : Nat) : decide (V.int (a : Int) = V.int (b : Int)) = decide (a = b) := by
  rw [dec_int, Bool.eq_iff_iff, beq_iff_eq, decide_eq_true_iff]
  exact Int.ofNat_inj
noncomputable def spHas : Sp := fun vs H Q _ => ∃ a k : Nat, vs = [vN a, vN k] ∧ Q (.bl (hasB a k)) H
noncomputable def spCols : Sp := fun vs H Q _ => ∃ a : Nat, vs = [vN a] ∧ a < 2 ^ 20 ∧ ∀ p, H p = none → Q (.ref p) (upd H p (.lst ((colsN a).map vN)))
theorem has_eq (a k : Nat) : decide (V.int (Builtin.bitAnd ((a : Int) / 2 ^ (k : Int).toNat) 1) = V.int 1) = hasB a k := by
  have e : ((a : Int) / 2 ^ (k : Int).toNat) = ((a / 2 ^ k : Nat) : Int) := by
    rw [Int.toNat_natCast, two_pow_int]; omega
  rw [e, show (1 : Int) = ((1 : Nat) : Int) from rfl, bitAnd_nat, dec_nat, Nat.and_one_is_mod]
  rfl
theorem filt_succ (p : Nat → Bool) (i : Nat) : (List.range (i + 1)).filter p = (List.range i).filter p ++ (if p i = true then [i] else []) := by
  rw [List.range_succ, List.filter_append]
  congr 1
  cases h : p i <;> simp [h]
end L2

namespace L2
open PySem PySem.Spec PyProof.Rows
/-! ### the rules that speak of the written part, with it told (in a comprehension's block it stands under a binder) -/
section
variable {X : Cx} {K : PySem.W.Frag}
theorem ix_listK (h : X.K = K) : IxR X (rIxL K) := h ▸ ix_list
theorem ix_tupK (h : X.K = K) : IxR X (rIxT K) := h ▸ ix_tup
theorem call_lenK (h : X.K = K) : CallR X (.builtin "len") (fun xs H Q => ∃ p ys, xs = [.ref p] ∧ (SqL K H p ys ∨ SqT K H p ys) ∧ Q (.int ys.length) H) := h ▸ call_len_seq
theorem call_isK (h : X.K = K) : CallR X (.builtin "isinstance") (fun xs H Q => ∃ x n t b, xs = [x, .ty n] ∧ TyOf K H x t ∧ PySem.W.kitOne K t (.type n) = some b ∧ Q (.bl b) H) := h ▸ call_isinst
theorem call_listK (h : X.K = K) : CallR X (.type "list") (fun xs H Q => ∃ p ys, xs = [.ref p] ∧ (SqL K H p ys ∨ SqT K H p ys) ∧ ∀ l, H l = none → Q (.ref l) (upd H l (.lst ys))) := h ▸ call_list_of
theorem pi_listK {tg l : Expr} {tl : TE} (h : X.K = K) (hl : PE X l tl) : PI X tg l (iList K tl) := h ▸ pi_list hl
theorem pi_tupK {tg l : Expr} {tl : TE} (h : X.K = K) (hl : PE X l tl) : PI X tg l (iTup K tl) := h ▸ pi_tup hl
end
end L2

namespace L2
open PySem PySem.Spec PyProof.Rows
/-! ### arithmetic of naturals -/
noncomputable def rN (C : Nat → Nat → Prop) (g : Nat → Nat → V) : R2 := fun x y H Q => ∃ i j : Nat, x = vN i ∧ y = vN j ∧ C i j ∧ Q (g i j) H
noncomputable def rN0 (g : Nat → Nat → V) : R2 := fun x y H Q => ∃ i j : Nat, x = vN i ∧ y = vN j ∧ Q (g i j) H
section
variable {X : Cx}
theorem OpR.mono {f : Value → Value → Sem Value} {r r' : R2} (h : OpR X f r) (k : ∀ x y H Q, r' x y H Q → r x y H Q) : OpR X f r' := fun pins s σ H x y v u Q I rx ry q => h pins s σ H x y v u Q I rx ry (k x y H Q q)
theorem op_addN : OpR X (binaryOp .Add) (rN0 fun i j => vN (i + j)) := op_add.mono fun x y H Q ⟨i, j, h1, h2, q⟩ => ⟨i, j, h1, h2, by show Q (V.int ((i : Int) + j)) H; rw [← Int.natCast_add]; exact q⟩
theorem op_mulN : OpR X (binaryOp .Mult) (rN (fun i _ => i < 2 ^ 64) fun i j => vN (i * j)) := op_mul.mono fun x y H Q ⟨i, j, h1, h2, h, q⟩ => ⟨i, j, h1, h2, .inl ⟨by omega, by omega⟩, by show Q (V.int ((i : Int) * j)) H; rw [← Int.natCast_mul]; exact q⟩
theorem op_modN' : OpR X (binaryOp .Mod) (rN (fun _ j => 0 < j) fun i j => vN (i % j)) := op_mod.mono fun x y H Q ⟨i, j, h1, h2, h, q⟩ => ⟨i, j, h1, h2, by omega, by show Q (V.int ((i : Int) % j)) H; rw [← Int.natCast_emod]; exact q⟩
theorem op_fdivN' : OpR X (binaryOp .FloorDiv) (rN (fun _ j => 0 < j ∧ j < 1073741824) fun i j => vN (i / j)) := op_fdiv.mono fun x y H Q ⟨i, j, h1, h2, h, q⟩ => ⟨i, j, h1, h2, ⟨by omega, by omega⟩, by show Q (V.int ((i : Int) / j)) H; rw [← Int.natCast_ediv]; exact q⟩
theorem op_shlN : OpR X (binaryOp .LShift) (rN (fun i j => j ≤ 1000 ∧ i < 2 ^ 64) fun i j => vN (i * 2 ^ j)) := op_shl.mono fun x y H Q ⟨i, j, h1, h2, h, q⟩ => ⟨i, j, h1, h2, ⟨by omega, by omega, by rw [Int.natAbs_natCast]; exact h.2⟩, by
  show Q (V.int ((i : Int) * 2 ^ (j : Int).toNat)) H
  rw [Int.toNat_natCast, two_pow_int, ← Int.natCast_mul]; exact q⟩
/-- 1 << j -/
theorem op_shl1 : OpR X (binaryOp .LShift) (fun x y H Q => ∃ j : Nat, x = .int 1 ∧ y = vN j ∧ j ≤ 1000 ∧ Q (vN (2 ^ j)) H) := op_shlN.mono fun x y H Q ⟨j, h1, h2, h, q⟩ => ⟨1, j, h1, h2, ⟨h, by decide⟩, by show Q (vN (1 * 2 ^ j)) H; rw [Nat.one_mul]; exact q⟩
theorem op_shrN : OpR X (binaryOp .RShift) (rN0 fun i j => vN (i / 2 ^ j)) := op_shr.mono fun x y H Q ⟨i, j, h1, h2, q⟩ => ⟨i, j, h1, h2, by omega, by
  show Q (V.int ((i : Int) / 2 ^ (j : Int).toNat)) H
  rw [Int.toNat_natCast, two_pow_int, ← Int.natCast_ediv]; exact q⟩
theorem op_andN : OpR X (binaryOp .BitAnd) (rN0 fun i j => vN (i &&& j)) := op_and.mono fun x y H Q ⟨i, j, h1, h2, q⟩ => ⟨i, j, h1, h2, by show Q (V.int (Builtin.bitAnd (i : Int) j)) H; rw [bitAnd_nat]; exact q⟩
theorem op_orN : OpR X (binaryOp .BitOr) (rN0 fun i j => vN (i ||| j)) := op_or.mono fun x y H Q ⟨i, j, h1, h2, q⟩ => ⟨i, j, h1, h2, by show Q (V.int (Builtin.bitOr (i : Int) j)) H; rw [bitOr_nat]; exact q⟩
theorem op_eqN : OpR X (compareOp .Eq) (rN0 fun i j => .bl (decide (i = j))) := op_eq.mono fun x y H Q ⟨i, j, h1, h2, q⟩ => by
  subst h1 h2
  refine ⟨rfl, ?_⟩
  show Q (V.bl (decide (V.int (i : Int) = V.int (j : Int)))) H
  rw [dec_nat]; exact q
theorem op_neN : OpR X (compareOp .NotEq) (rN0 fun i j => .bl (!decide (i = j))) := op_ne.mono fun x y H Q ⟨i, j, h1, h2, q⟩ => by
  subst h1 h2
  refine ⟨rfl, ?_⟩
  show Q (V.bl (!decide (V.int (i : Int) = V.int (j : Int)))) H
  rw [dec_nat]; exact q
theorem dlt (i j : Nat) : decide ((i : Int) < (j : Int)) = decide (i < j) := by rw [decide_eq_decide]; omega
theorem dle (i j : Nat) : decide ((i : Int) ≤ (j : Int)) = decide (i ≤ j) := by rw [decide_eq_decide]; omega
theorem op_ltN : OpR X (compareOp .Lt) (rN0 fun i j => .bl (decide (i < j))) := op_lt.mono fun x y H Q ⟨i, j, h1, h2, q⟩ => ⟨i, j, h1, h2, by show Q (V.bl (decide ((i : Int) < j))) H; rw [dlt]; exact q⟩
theorem op_leN : OpR X (compareOp .LtE) (rN0 fun i j => .bl (decide (i ≤ j))) := op_le.mono fun x y H Q ⟨i, j, h1, h2, q⟩ => ⟨i, j, h1, h2, by show Q (V.bl (decide ((i : Int) ≤ j))) H; rw [dle]; exact q⟩
theorem op_gtN : OpR X (compareOp .Gt) (rN0 fun i j => .bl (decide (j < i))) := op_gt.mono fun x y H Q ⟨i, j, h1, h2, q⟩ => ⟨i, j, h1, h2, by show Q (V.bl (decide ((j : Int) < i))) H; rw [dlt]; exact q⟩
end
/-- a range from nought, its numbers as naturals -/
theorem lc_rangeN {k : Nat} {n : Nat} {g : TG} {tc : TT} {te : TE} {σ : St} {H : Hp} {F : List V → Hp → Prop} (Pv : Nat → List V → Hp → Prop) (hn : k ≤ 1000000) (h0 : Pv 0 [] H)
    (hl : ∀ i acc H, i ≤ k → Pv i acc H → acc.length ≤ i)
    (hs : ∀ i acc H, i < k → Pv i acc H → g (vN i) (List.replicate n none ++ σ) H fun σ2 H2 => σ2.drop n = σ ∧ tc σ2 H2 fun c H3 => if c = true then te σ2 H3 fun y H4 => Pv (i + 1) (acc ++ [y]) H4 else Pv (i + 1) acc H3)
    (hd : ∀ acc H, Pv k acc H → F acc H) : LCW n (Itr 0 k) g tc te σ H F :=
  lc_range Pv hn h0 hl (fun i acc H hi p => by rw [Int.zero_add]; exact hs i acc H hi p) hd
theorem for_rangeN {n : Nat} {g : TG} {tb : TS} {D : Ends} {σ : St} {H : Hp} (Pv : Nat → St → Hp → Prop) (h0 : Pv 0 σ H)
    (hs : ∀ i σ H, i < n → Pv i σ H → g (vN i) σ H fun σ2 H2 => tb { D with nx := Pv (i + 1), ct := Pv (i + 1), bk := D.nx } σ2 H2) (hd : ∀ σ H, Pv n σ H → D.nx σ H) :
    ∃ W : Nat → Nat → St → Hp → Prop, (∃ m, W 0 m σ H) ∧ ∀ i m σ H, W i m σ H →
      ((Itr 0 n).stop i H ∧ D.nx σ H) ∨ ((Itr 0 n).go i H ∧ ∃ N : St → Hp → Prop, (∀ σ' H', N σ' H' → ∃ m', m' < m ∧ W (i + 1) m' σ' H') ∧ ∀ x H', (Itr 0 n).yld i H x H' → g x σ H' fun σ2 H2 => tb { D with nx := N, ct := N, bk := D.nx } σ2 H2) :=
  for_range (lo := 0) Pv h0 (fun i σ H hi p => by rw [Int.zero_add]; exact hs i σ H hi p) hd
end L2

namespace L2
open PySem PySem.Spec PyProof.Rows
/-! ### insert, index, sorted; a name let go -/
section
variable {X : Cx} {K : PySem.W.Frag}
/-- a method call, the written part told -/
theorem pe_bmK {o e : Expr} {es : List Expr} {to : TE} {t : TA} {name : Str} {apos cpos : Pos} {T id : String} {r : V → List V → Hp → VK → Prop} (hK : X.K = K) (pa : PlainAttrs T) (slot : Slot T name id) (hty : typeOf (.builtin id) = pure (.type "method_descriptor")) (hm : MtR X id r) (ho : PE X o to) (ha : PA X (e :: es) t)
    (hbase : attributeBase o name X.env (eval o X.env) = eval o X.env := by rfl)
    (hfew : ((backTo cpos (starEach (e :: es) X.env)).all (fun x => !x.1) && (backToKw cpos (keywordEach [] X.env)).all (fun x => x.1.isSome)
      && decide ((e :: es).length + ([] : List Keyword).length + (if ([] : List Keyword).isEmpty then 0 else 1) < 30)) = true := by rfl)
    (hline : (apos.endLine == cpos.line) = true := by rfl) (hs : starEach (e :: es) X.env = (false, eval e X.env) :: starEach es X.env := by rfl) (hplain : (backTo cpos (starEach es X.env)).any (·.1) = false := by rfl) :
    PE X (.Call (.Attribute o name apos) (e :: es) [] cpos) (tBM K T r to t) := hK ▸ pe_bm pa slot hty hm ho ha hbase hfew hline hs hplain
end
/-! ### the law's script and its place, the script frozen: lists of one's own stand apart from it -/
noncomputable def SqF (K : PySem.W.Frag) (H : Hp) (a : Addr) (ns : List Int) : Prop := (∃ o, H a = some (.frz o (.lst (ns.map V.int)))) ∨
  ∃ (o : Obj) (its : Array Value) (n : Nat), K.lookup a = some o ∧ o.cls = .type "list" ∧ o.dict = none ∧ o.data = .seq its n ∧ its.size ≤ sizeLine ∧ Vals (ns.map V.int) its.toList
theorem SqF.sq {K : PySem.W.Frag} {H : Hp} {a : Addr} {ns : List Int} (h : SqF K H a ns) : SqL K H a (ns.map V.int) := by
  rcases h with ⟨o, h⟩ | h
  · exact .inl (.inr ⟨o, h⟩)
  · exact .inr h
theorem SqF.of {K : PySem.W.Frag} {H : Hp} {a : Addr} {ns : List Int} (hO : Only H) (h : SqL K H a (ns.map V.int)) : SqF K H a ns := by
  rcases h with (h | ⟨o, h⟩) | h
  · rcases hO a with z | ⟨o, xs, z⟩
    · rw [h] at z; cases z
    · rw [h] at z; cases z
  · exact .inl ⟨o, h⟩
  · exact .inr h
end L2

namespace L2
open PySem PySem.Spec PyProof.Rows
/-! ### ints compared, truths compared, tuples compared, all -/
section
variable {X : Cx} {K : PySem.W.Frag}
/-- all of a list of truths -/
theorem all_range (bs : List Bool) : ((List.range bs.length).all fun i => bs.getD i true) = bs.all id := by
  rw [Bool.eq_iff_iff, List.all_eq_true, List.all_eq_true]
  constructor
  · intro h b hb
    obtain ⟨i, hi, rfl⟩ := List.getElem_of_mem hb
    have := h i (List.mem_range.mpr hi)
    rwa [List.getD_eq_getElem?_getD, List.getElem?_eq_getElem hi] at this
  · intro h i hi
    have hi' := List.mem_range.mp hi
    rw [List.getD_eq_getElem?_getD, List.getElem?_eq_getElem hi']
    exact h _ (List.getElem_mem hi')
theorem call_allK (h : X.K = K) (hc : X.calm = true) : CallR X (.builtin "all") (fun xs H Q => ∃ (p : Addr) (bs : List Bool), xs = [.ref p] ∧ SqL K H p (bs.map V.bl) ∧ Q (.bl (bs.all id)) H) := by
  subst h
  intro pins s σ H xs us Q I r h
  obtain ⟨p, bs, rfl, hq, q⟩ := h
  obtain ⟨u, rfl, rx⟩ := vals1 r
  cases rx
  obtain ⟨its, rv, pl, hz⟩ := I.list hq
  have len : its.length = bs.length := by rw [← rv.length, List.length_map]
  refine call_all_walk (wpAny_pyIter_list pl.isList ⟨s.heap.objs.size, [s.heap.objs.size, p], [s.heap.objs.size], its.toArray.size, _, _, fun i => bs.getD i true, rfl, Walks.list (A := X.A.in1) (I.ok.hd hc) _ p (Nat.ne_of_lt pl.lt) its.toArray, ⟨⟨_, Heap.get?_push_size _ rfl, rfl, rfl⟩, pl.isList.push _⟩, fun i v s' Q' E' hP hQ => ?_, fun h' tk hk => ?_⟩)
  · have hP' : its[i]? = some v := by simpa using hP
    have hi : i < bs.length := by rw [← len]; exact (List.getElem?_eq_some_iff.mp hP').1
    obtain ⟨c, e1, r1⟩ := rv.get (i := i) (x := V.bl bs[i]) (by rw [List.getElem?_map, List.getElem?_eq_getElem hi]; rfl)
    rw [hP'] at e1
    obtain rfl := Option.some.inj e1
    obtain rfl : v = Value.bool bs[i] := r1
    refine wpAny_truthy_bool ?_
    have hQ' : Q' (bs.getD i true) s' := hQ
    rwa [List.getD_eq_getElem?_getD, List.getElem?_eq_getElem hi] at hQ'
  · refine ⟨.bl (bs.all id), H, I.kept fun b o e => hk b o (fun hm => ?_) (Heap.get?_push_of_some _ e), ?_, q⟩
    · rw [List.mem_singleton.mp hm] at e
      exact Nat.lt_irrefl _ (Heap.lt_size e)
    · show _ = Value.bool _
      rw [List.size_toArray, len, all_range]
end
end L2

namespace L2
open PySem PySem.Spec PyProof.Rows
/-! ### two tuples walked side by side -/
section
variable {prog : Program} {w : World} {A : Around} {E : Value → Shared → Prop} {s : Shared}
end
/-! ### .. as the layer walks it -/
section
variable {X : Cx} {pins : List (Addr × Obj)} {σ : St} {H : Hp} {s : Shared}
theorem Inv.turnedL {t' : Nat} {h' : Heap} {ch : List Addr} (I : Inv X pins σ H s) (k : ∀ b o, b ∉ ch → s.heap.get? b = some o → h'.get? b = some o) (hf : ∀ b ∈ ch, FpOk X pins H b) : Inv X pins σ H { s with heap := h', toks := t' } := by
  have nit : ∀ b u, H b = some u → b ∉ ch := fun b u e z => by rw [(hf b z).1] at e; cases e
  refine I.step (g' := s.gens) (d' := s.drawn) (ch := ch) (fun b hb => ?_) (fun b o _ _ hc e _ => k b o hc e) (fun b o _ _ hc e _ => ⟨o.slots, k b o hc e⟩) (fun _ _ _ _ n => n) (fun b o hc e => ⟨o, k b o hc e⟩) (fun _ _ e => e) (fun _ _ _ e => e) (fun b ps e => ⟨#[], by rw [e]; simp⟩) (fun m hm => ?_) (fun b u e => ?_) I.bare
  · obtain ⟨f0, f1, f2, f3, f4, f5⟩ := hf b hb
    exact ⟨f3, f1, f4, f5⟩
  · obtain ⟨o, es, ep, ho, r⟩ := hm
    exact ⟨o, es, ep, k _ o (fun z => (hf _ z).2.1 rfl) ho, r⟩
  · refine (I.hok b u e).stay (fun c v hc q => k c v ?_ q) (fun _ q => q) fun _ _ q => q
    rcases hc with z | z
    · rw [z]; exact nit b u e
    · exact nit c _ z
end
end L2

namespace L2
open PySem PySem.Spec PyProof.Rows
/-! ### rows of a book in the heap -/
/-! ### what the program says of rows -/
end L2

namespace L2
open PySem PySem.Spec PyProof.Rows

/-! ### lists of pairs as tables -/
section
variable {κ : Type} [DecidableEq κ]
end


/-! ### a tracked dict, its keys ints and texts or tuples of these -/
section
variable {P : Program} {w : World} {H : Hp} {h : Heap} {a : Addr}
end

section
variable {X : Cx} {pins : List (Addr × Obj)} {σ : St} {H : Hp} {s : Shared} {a : Addr} {y v : V} {u r : Value} {o : Option V} {A : Around} {E : Value → Shared → Prop}

end

section
variable {X : Cx} {pins : List (Addr × Obj)} {σ : St} {H : Hp} {s : Shared} {a : Addr} {kvs : List (Key × V)} {k : Key} {u : Value} {A : Around} {E : Value → Shared → Prop}
end


/-! ### readings and rules -/
section
variable {X : Cx} {o i e value : Expr} {pos pos' tpos : Pos} {td ty tv : TE}
end


/-! ### displays -/
section
variable {X : Cx} {pos : Pos}
end

/-! ### methods -/
section
variable {X : Cx} {pins : List (Addr × Obj)} {σ : St} {H : Hp} {s : Shared} {a : Addr} {y d : V} {u r : Value} {o : Option V} {A : Around} {E : Value → Shared → Prop}
end

section
variable {X : Cx} {o e f : Expr} {apos cpos : Pos} {td ty tx : TE}
end

/-! ### dict(d): a copy -/
section
variable {X : Cx} {pins : List (Addr × Obj)} {σ : St} {H : Hp} {s : Shared} {a : Addr} {kvs : List (Key × V)} {A : Around} {E : Value → Shared → Prop}
end


section
variable {X : Cx} {pins : List (Addr × Obj)} {σ : St} {H : Hp} {s : Shared} {a : Addr} {y : V} {u : Value} {A : Around} {E : Value → Shared → Prop}
end
end L2

namespace L2
open PySem PySem.Spec PyProof.Rows
/-! ### d.setdefault(k, x), the keys tuples -/
section
variable {prog : Program} {w : World} {A : Around} {E : Value → Shared → Prop} {s : Shared} {κ : Type} [DecidableEq κ] {kd : HeapKind prog w κ}
end
section
variable {X : Cx} {o e f : Expr} {apos cpos : Pos} {td ty tx : TE}
end
end L2

namespace L2
open PySem PySem.Spec PyProof.Rows
/-! ### for v in d.values(), whatever the keys -/
section
variable {prog : Program} {w : World} {A : Around} {E : Value → Shared → Prop} {s : Shared}
end
section
variable {X : Cx} {pins : List (Addr × Obj)} {σ : St} {H : Hp} {s : Shared}
/-! ### the forms one uses -/
end
end L2

namespace L2
open PySem PySem.Spec PyProof.Rows
/-! ### dict of a list of pairs, the keys tuples -/
section
variable {prog : Program} {w : World} {A : Around} {E : Value → Shared → Prop} {s : Shared}
end
end L2

namespace L2
open PySem PySem.Spec PyProof.Rows
/-! ### dict of a list of pairs: the loop, the call -/
section
variable {X : Cx} {pins : List (Addr × Obj)} {σ : St} {H : Hp}
end
end L2

namespace L2
open PySem PySem.Spec PyProof.Rows
/-! ### (x,) * n -/
end L2

namespace L2
open PySem PySem.Spec PyProof.Rows
/-! ### books: rows with their places, groups of rows -/
/-! ### what a group is -/
end L2

namespace L2
open PySem PySem.Spec PyProof.Rows
/-! ### the promises of the program's own defs about books -/
end L2

namespace L2
open PySem PySem.Spec PyProof.Rows
/-! ### rows alike and mixed: the mathematics -/
/-! ### the promises -/
/-- a rule in the heap: its word (settle or not), its sets -/
noncomputable def wordS (st : Bool) : Str := if st = true then "settle" else "deal"
noncomputable def RuleAt (H : Hp) (r : Addr) (st : Bool) (x y : Nat) : Prop := H r = some (.tup [.str (wordS st), vN x, vN y])
structure Rl where
  r : Addr
  st : Bool
  x : Nat
  y : Nat
end L2

namespace L2
open PySem PySem.Spec PyProof.Rows
/-! ### the book of a set -/
end L2

namespace L2
open PySem PySem.Spec PyProof.Rows
/-! ### tuples in lists, lists of lists compared -/
section
variable {X : Cx} {K : PySem.W.Frag} {pins : List (Addr × Obj)} {σ : St} {H : Hp} {s : Shared}
end
end L2

namespace L2
open PySem PySem.Spec PyProof.Rows
/-! ### k11: what two rows show -/
end L2

namespace L2
open PySem PySem.Spec PyProof.Rows
/-! ### paths joined -/
section
variable {X : Cx} {st : Stmt} {rest : List Stmt} {t u : TS}
theorem pss_cut (P : St → Hp → Prop) (h1 : PS X st t) (h2 : PSs X rest u) : PSs X (st :: rest) (fun D σ H => t { D with nx := P } σ H ∧ ∀ σ' H', P σ' H' → u D σ' H') := by
  intro pins s σ H D I h
  refine wpAny_execs_cons (thn (h1 pins s σ H { D with nx := P } I h.1) fun f s1 q => ?_)
  cases f with
  | next =>
    obtain ⟨σ', H', I', q⟩ := q
    exact h2 pins s1 σ' H' D I' (h.2 σ' H' q)
  | ret v => exact q
  | brk => exact q
  | cont => exact q
end
/-! ### truths told one by one -/
end L2

namespace L2
open PySem PySem.Spec PyProof.Rows
/-! ### for i, x in enumerate(a list) -/
section
variable {X : Cx} {pins : List (Addr × Obj)} {σ : St} {H : Hp} {s : Shared}
noncomputable def Itn (K : PySem.W.Frag) (l : Addr) : It :=
  ⟨fun i H => ∃ xs x, SqL K H l xs ∧ xs[i]? = some x,
   fun i H v H' => ∃ t x, v = .ref t ∧ H t = none ∧ (∀ xs, SqL K H l xs → xs[i]? = some x) ∧ H' = upd H t (.tup [.int (i : Int), x]),
   fun i H => ∃ xs, SqL K H l xs ∧ xs.length ≤ i⟩
noncomputable def tnN (e it l : Addr) (i : Nat) (h : Heap) : Prop := (∃ old, IsEnum h e it (i : Int) old) ∧ h.IsListIter it l i
theorem turn_enum {P : Program} {w : World} {K : PySem.W.Frag} {es : List Expr} {n : Nat} {tp : Pos} {e it l : Addr} (hne : e ≠ it) : Turn P w K (.Tuple es n tp) (Itn K l) [e, it] e (tnN e it l) where
  mem := by simp
  obj := fun i h st c hc => by
    obtain ⟨⟨old, hE⟩, ⟨oa, ea, _, da⟩⟩ := st
    simp only [List.mem_cons, List.not_mem_nil, or_false] at hc
    rcases hc with rfl | rfl
    · exact ⟨_, hE, fun v r => by cases r⟩
    · exact ⟨_, ea, fun v r => by rw [da] at r; cases r⟩
  keep := fun i h h' st k => by
    obtain ⟨⟨old, hE⟩, ha⟩ := st
    exact ⟨⟨old, k e (by simp) _ hE⟩, ha.at fun o z => k it (by simp) o z⟩
  item := by
    intro X hP hw hK hc i pins s σ H E I hf st hg
    subst hP hw hK
    obtain ⟨xs, x, hx, ex⟩ := hg
    obtain ⟨⟨old, hE⟩, ha⟩ := st
    obtain ⟨i1, r1, t1, _⟩ := I.list hx
    obtain ⟨x', ex', rx⟩ := r1.get ex
    refine wpAny_pyNext_enum_item hE ha t1.isList (x := x') (by simpa using ex') hne fun g c1 c2 c3 c4 c5 => ⟨_, rfl, ?_⟩
    refine wpAny_letOwnedTupleGo_enum c1 fun g' z' k' => ?_
    have nT : H s.heap.objs.size = none := I.fresh
    have lz : s.heap.objs.size ≠ e := Nat.ne_of_gt (Heap.lt_size hE)
    have IA : Inv X pins σ (upd H s.heap.objs.size (.tup [.int (i : Int), x])) { s with heap := s.heap.push { cls := .type "tuple", data := .seq #[.int (i : Int) s.toks, x'] }, toks := s.toks + 1 } :=
      I.laid (t' := s.toks + 1) (fun c o z => Heap.get?_push_of_some _ z) (Nat.le_refl _) (show ObjOk X.prog X.w _ _ _ (.tup [.int (i : Int), x]) from ⟨by show 2 ≤ sizeLine; decide, [.int (i : Int) s.toks, x'], .cons ⟨_, rfl⟩ (.cons rx .nil), ⟨_, Heap.get?_push_size _ rfl, rfl, _, rfl⟩⟩)
    have fp : ∀ c ∈ [e, it], FpOk X pins (upd H s.heap.objs.size (.tup [.int (i : Int), x])) c := fun c hc' => by
      obtain ⟨f0, f1, f2, f3, f4, f5⟩ := hf c hc'
      refine ⟨?_, f1, f2, f3, f4, f5⟩
      rw [upd_ne]
      · exact f0
      · have lt : c < s.heap.objs.size := by
          simp only [List.mem_cons, List.not_mem_nil, or_false] at hc'
          rcases hc' with rfl | rfl
          · exact Heap.lt_size hE
          · obtain ⟨_, z, _⟩ := ha; exact Heap.lt_size z
        exact Nat.ne_of_lt lt
    have IB : Inv X pins σ (upd H s.heap.objs.size (.tup [.int (i : Int), x])) { s with heap := g', toks := s.toks + 1 } := by
      refine IA.turnedL (t' := s.toks + 1) (h' := g') (fun c o hc' z => ?_) fp
      simp only [List.mem_cons, List.not_mem_nil, or_false, not_or] at hc'
      refine k'.extBut _ _ hc'.1 ?_
      by_cases hcT : c = s.heap.objs.size
      · subst hcT
        have e1 : (s.heap.push { cls := .type "tuple", data := .seq #[.int (i : Int) s.toks, x'] }).get? s.heap.objs.size = some { cls := .type "tuple", data := .seq #[.int (i : Int) s.toks, x'] } := Heap.get?_push_size _ rfl
        have e2 := e1.symm.trans z
        rw [← Option.some.inj e2]
        exact c3
      · exact c5 c o hc'.1 hc'.2 (by
          have e1 : (s.heap.push { cls := .type "tuple", data := .seq #[.int (i : Int) s.toks, x'] }).get? c = s.heap.get? c := Heap.get?_push_ne _ _ _ hcT
          rw [← e1]; exact z)
    refine ⟨.ref s.heap.objs.size, _, IB, rfl, ⟨_, x, rfl, nT, fun zs hz => by rw [I.list_inj hz hx]; exact ex, rfl⟩, ⟨⟨x', ?_⟩, c2.extBut k'.extBut hne.symm⟩, fun c hc' => (fp c hc').1⟩
    have ei : ((i + 1 : Nat) : Int) = (i : Int) + 1 := Int.natCast_succ i
    rw [ei]
    exact z'
  done := by
    intro X hP hw hK hc i pins s σ H E I hf st hg
    subst hP hw hK
    obtain ⟨xs, hx, hl⟩ := hg
    obtain ⟨⟨old, hE⟩, ha⟩ := st
    obtain ⟨i1, r1, t1, _⟩ := I.list hx
    have len := r1.length
    refine wpAny_pyNext_enum_end (I.ok.hd hc) hE ha t1.isList (by simp; omega) fun g hk => ⟨rfl, ?_⟩
    refine I.turnedL (t' := s.toks) (h' := g) (ch := [e, it]) (fun c o hc' z => ?_) hf
    simp only [List.mem_cons, List.not_mem_nil, or_false, not_or] at hc'
    exact hk c o hc'.2 z
  self := fun _ _ _ _ _ st h => by
    obtain ⟨⟨old, hE⟩, _⟩ := st
    exact wpAny_pyIter_enum hE h
noncomputable def iEnum (K : PySem.W.Frag) (ta : TA) : TI := fun σ H R => ta σ H fun vs H1 => ∃ (l : Addr) (xs : List V), vs = [.ref l] ∧ SqL K H1 l xs ∧ R (Itn K l) H1
theorem pi_enum {K : PySem.W.Frag} {es : List Expr} {n : Nat} {tp : Pos} {e1 : Expr} {ta : TA} {np pos : Pos} (hK : X.K = K) (hg : Gl X "enumerate") (hm : X.mg "enumerate" = none) (ha : PA X [e1] ta)
    (hs : starEach [e1] X.env = [(false, eval e1 X.env)] := by rfl) :
    PI X (.Tuple es n tp) (.Call (.Name "enumerate" np) [e1] [] pos) (iEnum K ta) := by
  subst hK
  intro pins s σ H R I h
  refine Call_ (ld_blt I hg hm boot_enumerate (PyProof.Rows.callWith_type1 (thn (ha pos pins s σ H _ I h) fun us s1 ⟨vs, H1, I1, r1, q1⟩ => ?_) (by rw [hs]; rfl) (by rfl)))
  obtain ⟨l, xs, rfl, hl, r⟩ := q1
  obtain ⟨u1, rfl, ru1⟩ := r1.one
  cases ru1
  obtain ⟨i1, v1, t1, _⟩ := I1.list hl
  refine call_enumerate_list t1.isList fun g hE hi hz hk => ?_
  refine wpAny_pyIter_enum hE ⟨s1.heap.objs.size + 1, [s1.heap.objs.size + 1, s1.heap.objs.size], tnN (s1.heap.objs.size + 1) s1.heap.objs.size l, Itn X.K l, H1, rfl, I1.kept (t' := s1.toks) hk, turn_enum (Nat.succ_ne_self _), ⟨⟨_, hE⟩, hi⟩, fun c hc => ?_, r⟩
  have lc : s1.heap.objs.size ≤ c := by
    simp only [List.mem_cons, List.not_mem_nil, or_false] at hc
    rcases hc with rfl | rfl <;> omega
  exact I1.fpOk lc (I1.hok.fresh lc)
theorem for_enum {K : PySem.W.Frag} {l : Addr} {xs : List V} {g : TG} {tb : TS} {D : Ends} {σ : St} {H : Hp} (Pv : Nat → St → Hp → Prop) (h0 : Pv 0 σ H) (hl : ∀ i σ H, i ≤ xs.length → Pv i σ H → SqL K H l xs)
    (hs : ∀ i x σ H t, xs[i]? = some x → Pv i σ H → H t = none → g (.ref t) σ (upd H t (.tup [.int (i : Int), x])) fun σ2 H2 => tb { D with nx := Pv (i + 1), ct := Pv (i + 1), bk := D.nx } σ2 H2) (hd : ∀ σ H, Pv xs.length σ H → D.nx σ H) :
    ∃ W : Nat → Nat → St → Hp → Prop, (∃ m, W 0 m σ H) ∧ ∀ i m σ H, W i m σ H →
      ((Itn K l).stop i H ∧ D.nx σ H) ∨ ((Itn K l).go i H ∧ ∃ N : St → Hp → Prop, (∀ σ' H', N σ' H' → ∃ m', m' < m ∧ W (i + 1) m' σ' H') ∧ ∀ x H', (Itn K l).yld i H x H' → g x σ H' fun σ2 H2 => tb { D with nx := N, ct := N, bk := D.nx } σ2 H2) := by
  refine ⟨fun i m σ H => m = xs.length - i ∧ i ≤ xs.length ∧ Pv i σ H, ⟨xs.length, by simp, Nat.zero_le _, h0⟩, ?_⟩
  rintro i m σ H ⟨rfl, hi, pv⟩
  have h1 := hl i σ H hi pv
  by_cases lt : i < xs.length
  · refine .inr ⟨⟨xs, xs[i], h1, by simp [lt]⟩, Pv (i + 1), fun σ' H' p' => ⟨xs.length - (i + 1), by omega, rfl, lt, p'⟩, fun v H' yv => ?_⟩
    obtain ⟨t, x, rfl, nt, a3, rfl⟩ := yv
    exact hs i x σ H t (a3 xs h1) pv nt
  · obtain rfl : i = xs.length := by omega
    exact .inl ⟨⟨xs, h1, Nat.le_refl _⟩, hd σ H pv⟩
end
end L2

namespace L2
open PySem PySem.Spec PyProof.Rows
/-! ### == and != of values told as data -/
mutual
inductive DV (K : PySem.W.Frag) (H : Hp) : V → PyData → Prop
  | non : DV K H .non .none
  | bl (b : Bool) : DV K H (.bl b) (.bool b)
  | int (i : Int) : DV K H (.int i) (.int i)
  | str (x : Str) : DV K H (.str x) (.str x)
  | lst {a : Addr} {xs : List V} {ds : List PyData} : SqL K H a xs → DVs K H xs ds → DV K H (.ref a) (.list ds)
  | tup {a : Addr} {xs : List V} {ds : List PyData} : SqT K H a xs → DVs K H xs ds → DV K H (.ref a) (.tuple ds)
inductive DVs (K : PySem.W.Frag) (H : Hp) : List V → List PyData → Prop
  | nil : DVs K H [] []
  | cons {x : V} {xs : List V} {d : PyData} {ds : List PyData} : DV K H x d → DVs K H xs ds → DVs K H (x :: xs) (d :: ds)
end
section
variable {X : Cx} {K : PySem.W.Frag} {pins : List (Addr × Obj)} {σ : St} {H : Hp} {s : Shared}
mutual
theorem DV.reads (I : Inv X pins σ H s) : ∀ {v : V} {d : PyData} {u : Value}, DV X.K H v d → RelV v u → ∃ as, Reads s.heap u d as
  | _, _, _, .non, r => by obtain rfl := (show _ = Value.none from r); exact ⟨_, Reads.none⟩
  | _, _, _, .bl b, r => by obtain rfl := (show _ = Value.bool b from r); exact ⟨_, Reads.bool b⟩
  | _, _, _, .int i, r => by obtain ⟨t, rfl⟩ := r; exact ⟨_, .int i t⟩
  | _, _, _, .str x, r => by obtain ⟨t, rfl⟩ := r; exact ⟨_, .str x t⟩
  | _, _, _, .lst (a := a) hx hs, r => by
    obtain rfl := (show _ = Value.ref a from r)
    obtain ⟨its, rv, pl, _⟩ := I.list hx
    obtain ⟨as, ra⟩ := DVs.reads I hs rv
    obtain ⟨o, ho, hc, n, hd⟩ := pl.isList
    exact ⟨_, .list ho hc hd ra⟩
  | _, _, _, .tup (a := a) hx hs, r => by
    obtain rfl := (show _ = Value.ref a from r)
    obtain ⟨its, rv, pl, _⟩ := I.tuple hx
    obtain ⟨as, ra⟩ := DVs.reads I hs rv
    obtain ⟨o, ho, hc, n, hd⟩ := pl
    exact ⟨_, .tuple ho hc hd ra⟩
theorem DVs.reads (I : Inv X pins σ H s) : ∀ {vs : List V} {ds : List PyData} {us : List Value}, DVs X.K H vs ds → Vals vs us → ∃ as, ReadsAll s.heap us ds as
  | _, _, _, .nil, .nil => ⟨_, .nil⟩
  | _, _, _, .cons h hs, .cons r rs => by
    obtain ⟨as, ra⟩ := DV.reads I h r
    obtain ⟨bs, rb⟩ := DVs.reads I hs rs
    exact ⟨_, .cons ra rb⟩
end
noncomputable def rEqD (K : PySem.W.Frag) (neg : Bool) : R2 := fun x y H Q => ∃ d1 d2 : PyData, DV K H x d1 ∧ DV K H y d2 ∧ SeqAt.shaped d1 = true ∧ SeqAt.shaped d2 = true ∧ SeqAt.noMix d1 d2 = true ∧ Q (.bl (if neg then !same d1 d2 else same d1 d2)) H
theorem op_eqD (h : X.K = K) (hu : X.A.units + 64 < cLine) : OpR X (compareOp .Eq) (rEqD K false) := by
  subst h
  intro pins s σ H x y v u Q I rx ry h
  obtain ⟨d1, d2, h1, h2, s1, s2, nm, q⟩ := h
  obtain ⟨as, ra⟩ := h1.reads I rx
  obtain ⟨bs, rb⟩ := h2.reads I ry
  exact eq_dataH_same ra rb s1 s2 hu nm ⟨.bl _, H, I, rfl, q⟩
theorem op_neD (h : X.K = K) (hu : X.A.units + 64 < cLine) : OpR X (compareOp .NotEq) (rEqD K true) := by
  subst h
  intro pins s σ H x y v u Q I rx ry h
  obtain ⟨d1, d2, h1, h2, s1, s2, nm, q⟩ := h
  obtain ⟨as, ra⟩ := h1.reads I rx
  obtain ⟨bs, rb⟩ := h2.reads I ry
  exact ne_dataH_same ra rb s1 s2 hu nm ⟨.bl _, H, I, rfl, q⟩
end
/-! lists of data of one form -/
section
variable {α : Type} {f : α → PyData}
theorem sameAll_map [DecidableEq α] (h : ∀ a b, same (f a) (f b) = decide (a = b)) : ∀ xs ys : List α, sameAll (xs.map f) (ys.map f) = decide (xs = ys)
  | [], [] => by simp [sameAll]
  | [], _ :: _ => by simp [sameAll]
  | _ :: _, [] => by simp [sameAll]
  | x :: xs, y :: ys => by
    simp only [List.map_cons, sameAll, h, sameAll_map h xs ys]
    by_cases e : x = y <;> simp [e]
theorem noMixAll_map (h : ∀ a b, SeqAt.noMix (f a) (f b) = true) : ∀ xs ys : List α, SeqAt.noMixAll (xs.map f) (ys.map f) = true
  | [], [] => by simp [SeqAt.noMixAll]
  | [], _ :: _ => by simp [SeqAt.noMixAll]
  | _ :: _, [] => by simp [SeqAt.noMixAll]
  | x :: xs, y :: ys => by simp [SeqAt.noMixAll, h, noMixAll_map h xs ys]
theorem canLayAll_map (h : ∀ a, PyData.canLay0 (f a) = true) : ∀ xs : List α, PyData.canLayAll0 (xs.map f) = true
  | [] => by simp [PyData.canLayAll0]
  | x :: xs => by simp [PyData.canLayAll0, h, canLayAll_map h xs]
theorem depthAll_map {n : Nat} (h : ∀ a, PyData.depth (f a) ≤ n) : ∀ xs : List α, PyData.depthAll (xs.map f) ≤ n
  | [] => by simp [PyData.depthAll]
  | x :: xs => by
    have h1 := h x
    have h2 := depthAll_map h xs
    simp only [List.map_cons, PyData.depthAll]
    omega
theorem shaped_map (h : ∀ a, PyData.canLay0 (f a) = true) (hd : ∀ a, PyData.depth (f a) ≤ 10) (xs : List α) : SeqAt.shaped (.list (xs.map f)) = true := by
  have h2 : PyData.depth (.list (xs.map f)) ≤ 64 := by
    have := depthAll_map hd xs
    simp only [PyData.depth]
    omega
  show (PyData.canLay0 (.list (xs.map f)) && decide (PyData.depth (.list (xs.map f)) ≤ 64)) = true
  rw [Bool.and_eq_true]
  exact ⟨by simp only [PyData.canLay0]; exact canLayAll_map h xs, decide_eq_true h2⟩
end
/-- rules -/
noncomputable def dR (r : Bool × Nat × Nat) : PyData := .tuple [.str (wordS r.1), .int (r.2.1 : Int), .int (r.2.2 : Int)]
theorem noMix_dR (a b : Bool × Nat × Nat) : SeqAt.noMix (dR a) (dR b) = true := by unfold dR; simp [SeqAt.noMix, SeqAt.noMixAll]
theorem canLay_dR (a : Bool × Nat × Nat) : PyData.canLay0 (dR a) = true := by
  unfold dR
  obtain ⟨b, x, y⟩ := a
  have h1 : PyData.strOk (wordS true) = true := by decide +kernel
  have h2 : PyData.strOk (wordS false) = true := by decide +kernel
  cases b <;> simp only [PyData.canLay0, PyData.canLayAll0, h1, h2, Bool.and_true]
theorem depth_dR (a : Bool × Nat × Nat) : PyData.depth (dR a) ≤ 10 := by unfold dR; simp [PyData.depth, PyData.depthAll]
/-! xs[::-1] -/
section
variable {X : Cx} {K : PySem.W.Frag} {e : Expr} {te : TE} {ste : Expr} {tst : TO} {pos p2 : Pos}
end
/-! slices told in naturals -/
theorem cut_drop (xs : List V) (k : Nat) : cutV xs (some (k : Int)) none = xs.drop k := by
  unfold cutV
  rw [HT.sIx_nat, HT.sIx_none]
  by_cases h : k ≤ xs.length
  · rw [Nat.min_eq_left h, List.take_of_length_le (by rw [List.length_drop]; exact Nat.le_refl _)]
  · rw [Nat.min_eq_right (by omega), List.drop_eq_nil_of_le (Nat.le_refl _), List.drop_eq_nil_of_le (by omega), List.take_nil]
end L2

namespace L2
open PySem PySem.Spec PyProof.Rows
theorem Same.none {H H' : Hp} {p : Addr} (e : Same H H') (h : H' p = none) : H p = none := by
  cases z : H p with
  | none => rfl
  | some o => rw [e _ _ z] at h; cases h
/-! ### stage 2's laws: what their shared defs promise -/
noncomputable def spCellAt (K : PySem.W.Frag) : Sp := fun vs H Q _ => ∃ (sc : Addr) (ns : List Int) (k : Nat), vs = [.ref sc, vN k] ∧ SqL K H sc (ns.map V.int) ∧ k ≤ 1000 ∧ ∀ c : Nat, c < 2147483629 → Q (vN c) H
noncomputable def spMkRule : Sp := fun vs H Q _ => ∃ c m : Nat, vs = [vN c, vN m] ∧ c < 2 ^ 32 ∧ 1 ≤ m ∧ m ≤ 7 ∧ ∀ (st : Bool) (x y : Nat) (r : Addr) (H' : Hp), x < 2 ^ m → y < 2 ^ m → Same H H' → H r = none → RuleAt H' r st x y → Q (.ref r) H'
end L2

namespace L2
/-! ### why a draw by 48271 comes to a multiple of four -/
end L2

namespace L2
/-! ### the mathematics of unfolding -/
theorem pow7 {m : Nat} (h : m ≤ 7) : 2 ^ m ≤ 128 := Nat.pow_le_pow_right (by decide) h
/-! uses, in their order -/
noncomputable abbrev RD := Bool × Nat × Nat
/-! a run -/
/-! the parts drawn by k20's law -/
/-! every column is fixed or in a block -/
/-! a set whose book keeps the rules stays within one block -/
end L2

namespace L2
open PySem PySem.Spec PyProof.Rows
/-! ### what is not in a set, min, an object of one's own written -/
section
variable {X : Cx} {K : PySem.W.Frag}
/-- an item that is written out (the rest of the list stays shut) -/
theorem pa_consC {c : Const} {k : Nat} {pos : Pos} {es : List Expr} {te : TE} {t : TA} (ha : PE X (.Constant c k pos) te) (hr : PA X es t) : PA X (.Constant c k pos :: es) (tCons te t) := pa_cons ha hr rfl
end
/-! ### what the unfolding's defs promise -/
noncomputable def Rl.d (r : Rl) : RD := (r.st, r.x, r.y)
noncomputable def RulesAt (H : Hp) (m : Nat) (rs : List Rl) : Prop := ∀ r ∈ rs, RuleAt H r.r r.st r.x r.y ∧ r.x < 2 ^ m ∧ r.y < 2 ^ m
theorem RulesAt.same {H H' : Hp} {m : Nat} {rs : List Rl} (h : RulesAt H m rs) (e : Same H H') : RulesAt H' m rs := fun r hr => ⟨e _ _ (h r hr).1, (h r hr).2⟩
/-! data -/
theorem same_list {α : Type} [DecidableEq α] {f : α → PyData} (h : ∀ a b, same (f a) (f b) = decide (a = b)) (xs ys : List α) : same (.list (xs.map f)) (.list (ys.map f)) = decide (xs = ys) := by
  simp only [same]
  exact sameAll_map h xs ys
theorem noMix_list {α : Type} {f : α → PyData} (h : ∀ a b, SeqAt.noMix (f a) (f b) = true) (xs ys : List α) : SeqAt.noMix (.list (xs.map f)) (.list (ys.map f)) = true := by
  simp only [SeqAt.noMix]
  exact noMixAll_map h xs ys
theorem same_dR (a b : RD) : same (dR a) (dR b) = decide (a = b) := by
  unfold dR
  obtain ⟨a1, a2, a3⟩ := a
  obtain ⟨b1, b2, b3⟩ := b
  have hw : (wordS a1 = wordS b1) ↔ a1 = b1 := by
    constructor
    · intro h
      cases a1 <;> cases b1 <;> first | rfl | (exact absurd h (by decide))
    · rintro rfl; rfl
  by_cases h1 : a1 = b1 <;> by_cases h2 : a2 = b2 <;> by_cases h3 : a3 = b3 <;> simp [same, sameAll, hw, h1, h2, h3, Int.ofNat_inj]
theorem rules_dv {K : PySem.W.Frag} {H : Hp} {m : Nat} : ∀ {rs : List Rl}, RulesAt H m rs → DVs K H (rs.map fun r => V.ref r.r) ((rs.map Rl.d).map dR)
  | [], _ => .nil
  | r :: rs, h => .cons (.tup (SqT.of (h r (List.mem_cons_self ..)).1) (.cons (.str _) (.cons (.int _) (.cons (.int _) .nil)))) (rules_dv fun v hv => h v (List.mem_cons_of_mem _ hv))
end L2

namespace L2
open PySem PySem.Spec PyProof.Rows
/-! ### an unfolding under way, in the heap -/
end L2

namespace L2
open PySem PySem.Spec PyProof.Rows
/-! ### what follows -/
section
variable {X : Cx} {K : PySem.W.Frag}
end
end L2

namespace L2
/-! ### the settled columns, found by books of two rows -/
open PySem PySem.Spec PyProof.Rows
end L2

namespace L2
/-! ### what follows, told by the sets whose books keep the rules -/
noncomputable def HasB (a k : Nat) : Prop := a.testBit k = true
theorem hasb_lt {m a k : Nat} (ha : a < 2 ^ m) (h : HasB a k) : k < m := by
  apply Nat.lt_of_not_le
  intro le
  have : a.testBit k = false := Nat.testBit_lt_two_pow (Nat.lt_of_lt_of_le ha (Nat.pow_le_pow_right (by decide) le))
  unfold HasB at h
  rw [this] at h; cases h
end L2
namespace L2
/-! ### the rules of following -/
section
variable {m : Nat} {rs : List RD} {x y z v : Nat}
end
open PySem PySem.Spec PyProof.Rows
end L2

namespace L2
/-! ### which sets are blocks; more rules -/
end L2
namespace L2
open PySem PySem.Spec PyProof.Rows
end L2

namespace L2
/-! ### covers -/
open PySem PySem.Spec PyProof.Rows
theorem cols_has : ∀ a, a < 128 → ∀ k, k < 8 → (k ∈ colsN a ↔ a.testBit k = true) := by decide +kernel
theorem cols_mem {a : Nat} (ha : a < 128) (k : Nat) : k ∈ colsN a ↔ HasB a k := by
  by_cases hk : k < 8
  · exact cols_has a ha k hk
  · constructor
    · intro h
      have h1 := List.mem_range.mp (List.mem_filter.mp h).1
      have h2 : bitsN a ≤ 7 := by
        unfold bitsN Builtin.Int.intBits
        split
        · omega
        · rename_i z
          have h0 : a ≠ 0 := by intro e; subst e; exact z rfl
          have : a.log2 < 7 := (Nat.log2_lt h0).mpr ha
          show (a : Int).natAbs.log2 + 1 ≤ 7
          rw [Int.natAbs_natCast]
          omega
      omega
    · intro h
      have := hasb_lt (m := 7) ha h
      omega
end L2

namespace L2
open PySem PySem.Spec PyProof.Rows
end L2

namespace L2
open PySem PySem.Spec PyProof.Rows
/-! ### sorted(.., reverse=True) of what stands so already: one run, of any length -/
section
variable {prog : Program} {w : World} {A : Around} {E : Value → Shared → Prop} {s : Shared} {a₀ : Array Keyed} {κ : KeyKind}
end
section
variable {X : Cx} {K : PySem.W.Frag}
end
end L2

namespace L2
open PySem PySem.Spec PyProof.Rows
/-! ### a rule in a list of rules; covers say the same (k42) -/
section
variable {X : Cx} {K : PySem.W.Frag}
end
end L2

namespace L2
/-! ### any steps lead to the same blocks -/
open PySem PySem.Spec PyProof.Rows
end L2

namespace L2
open PySem PySem.Spec PyProof.Rows
/-! ### all blocks at once -/
/-! ### covers, rule by rule -/
end L2

namespace L2
open PySem PySem.Spec PyProof.Rows
/-! ### two lists walked side by side -/
section
variable {X : Cx} {pins : List (Addr × Obj)} {σ : St} {H : Hp} {s : Shared}
end
end L2

namespace L2
open PySem PySem.Spec PyProof.Rows
/-! ### covers told exactly -/
end L2

namespace L2
open PySem PySem.Spec PyProof.Rows
end L2

namespace L2
open PySem PySem.Spec PyProof.Rows
/-! ### the laws of cuts: their rules and parts; a cut in two -/
section
variable {K : PySem.W.Frag} {H H1 H2 : Hp} {st g p : Addr} {ns : List Int} {m k k' : Nat} {rs rs' : List Rl} {o : HO} {ys : List V}
end
theorem bits_eq {a b : Nat} (h : ∀ k, HasB a k ↔ HasB b k) : a = b := Nat.eq_of_testBit_eq fun k => by
  rw [Bool.eq_iff_iff]; exact h k
end L2

namespace L2
open PySem PySem.Spec PyProof.Rows
/-! ### exceptions: how one lies behind a call, a def that raises, a def that lets one through -/
section
variable {P : Program} {w : World} {K : PySem.W.Frag} {mg : Str → Option Value} {base : Heap} {N : List Str} {qual : Str} {scope : Scope} {f : Addr} {cd : Value} {A : Around} {outer : List Env} {s₀ : Shared} {H₀ : Hp} {E E' : XK}
end
end L2

namespace L2
open PySem PySem.Spec PyProof.Rows
/-! ### raise C(..), and try: f(..) except C as e: x = e -/
section
variable {X : Cx} {x : Str} {C : Addr} {np cpos pos : Pos} {e : Expr} {es : List Expr} {t : TA} {EX : XK}
end
/-! f-strings of two and three parts with one whole number -/
section
variable {X : Cx} {a b : Str} {e : Expr} {te : TE} {j1 j2 : Nat} {p1 p2 p3 pos : Pos}
end
end L2

namespace L2
open PySem PySem.Spec PyProof.Rows
/-! ### texts: join, split, upper, slices, !r -/
theorem strs_of : ∀ {ys : List Str} {us : List Value}, Vals (ys.map V.str) us → ∃ l : List (Str × Tok), us = strValues l ∧ l.map (·.1) = ys
  | [], _, .nil => ⟨[], rfl, rfl⟩
  | y :: ys, _, .cons r t => by
    obtain ⟨tk, rfl⟩ := r
    obtain ⟨l, rfl, e⟩ := strs_of t
    exact ⟨(y, tk) :: l, rfl, by rw [List.map_cons, e]⟩
theorem vals_strs : ∀ l : List (Str × Tok), Vals ((l.map (·.1)).map V.str) (strValues l)
  | [] => .nil
  | (y, tk) :: l => .cons ⟨tk, rfl⟩ (vals_strs l)
section
variable {X : Cx}
theorem mt_join : MtR X "str.join" (fun x xs H Q => ∃ (z : Str) (D : Addr) (ys : List Str), x = .str z ∧ xs = [.ref D] ∧ SqL X.K H D (ys.map V.str) ∧ JoinOk z ys = true ∧ Q (.str (Txt.join z ys)) H) := by
  intro pins s σ H x xs v us Q I rx rv h
  obtain ⟨z, D, ys, rfl, rfl, hD, ok, q⟩ := h
  obtain ⟨tk, rfl⟩ := rx
  obtain ⟨u, rfl, ru⟩ := rv.one
  cases ru
  obtain ⟨its, r, hl, _⟩ := I.list hD
  obtain ⟨l, rfl, e⟩ := strs_of r
  exact SC.join hl.isList e ok fun t' k => ⟨.str _, H, I.tok k, ⟨t', rfl⟩, q⟩
theorem sl_str : SlR X (fun x lo hi H Q => ∃ z : Str, x = .str z ∧ z.length ≤ 1000 ∧ Q (.str (Txt.slice z lo hi)) H) := by
  intro pins s σ H x v vl vu lo hi sl Q I rx hs pl pu h
  obtain ⟨z, rfl, hz, q⟩ := h
  obtain ⟨tk, rfl⟩ := rx
  refine ⟨"str", _, F.slot_str_getitem.lookup, typeIs_str _ _ _, ?_⟩
  have fin : ∀ {l u : Option (Int × Tok)}, l.map (·.1) = lo → u.map (·.1) = hi → s.heap.IsSlice sl l u none → wpAny (model X.prog X.w) X.A (getItem (.str z tk) (.ref sl)) (EP X pins σ Q) X.xe s := fun {l u} e1 e2 h => by
    refine wpAny_getItem_str_slice h rfl (post_val_or_str ⟨?_, fun t' k => ?_⟩)
    · show (Txt.slice z (l.map (·.1)) (u.map (·.1))).length ≤ sizeLine
      exact Nat.le_trans (Txt.slice_le _ _ _) (Nat.le_of_lt (small1000 hz))
    · refine ⟨.str (Txt.slice z lo hi), H, I.tok k, ⟨t', ?_⟩, q⟩
      rw [← e1, ← e2]
      rfl
  cases pl with
  | none =>
    cases pu with
    | none => exact fin (l := none) (u := none) rfl rfl hs
    | int j tj => exact fin (l := none) (u := some (j, tj)) rfl rfl hs
  | int i ti =>
    cases pu with
    | none => exact fin (l := some (i, ti)) (u := none) rfl rfl hs
    | int j tj => exact fin (l := some (i, ti)) (u := some (j, tj)) rfl rfl hs
end
end L2

namespace L2
open PySem PySem.Spec PyProof.Rows
open Builtin.Str (occurrences subAt strSub partsBetween)
open PySem.StrLaws (occBody occ_eq subAt_one occ_chain ChainTo partsFrom partsBetween_eq join_split)
/-! ### split by one sign is the other way of join -/
section
variable {x : Str} {c : Nat}
noncomputable def posF (x : Str) (c : Nat) (i : Nat) : Bool := decide (x.cps.toList[i]? = some c)
theorem occ_run : ∀ (n a : Nat) (st : Array Nat × Nat), st.2 ≤ a → st.1.size ≤ a → a + n ≤ x.length + 1 →
    (forIn (List.range' a n) st (occBody x ⟨#[c]⟩ x.length (x.length + 1))).run.fst.toList = st.1.toList ++ (List.range' a n).filter (posF x c)
  | 0, a, st, _, _, _ => by simp
  | n + 1, a, st, h1, h2, h3 => by
    rw [List.range'_succ, List.forIn_cons]
    unfold occBody
    by_cases hc : x.cps.toList[a]? = some c
    · obtain ⟨k1, k2⟩ := (subAt_one x c a).mpr hc
      rw [if_pos ⟨⟨⟨by omega, h1⟩, k1⟩, k2⟩]
      have ih := occ_run n (a + 1) (st.1.push a, a + (⟨#[c]⟩ : Str).length) (Nat.le_refl _) (by simp; omega) (by omega)
      refine Eq.trans ih ?_
      rw [List.filter_cons_of_pos (by exact decide_eq_true hc), Array.toList_push, List.append_assoc]
      rfl
    · have no : ¬ (((st.1.size < x.length + 1 ∧ st.2 ≤ a) ∧ a + (⟨#[c]⟩ : Str).length ≤ x.length) ∧ subAt x ⟨#[c]⟩ a = true) := fun z => hc ((subAt_one x c a).mp ⟨z.1.2, z.2⟩)
      rw [if_neg no]
      have ih := occ_run n (a + 1) (st.1, st.2) (by show st.2 ≤ a + 1; omega) (by show st.1.size ≤ a + 1; omega) (by omega)
      refine Eq.trans ih ?_
      rw [List.filter_cons_of_neg (by intro z; exact hc (of_decide_eq_true z))]
theorem occ_all : occurrences x ⟨#[c]⟩ 0 x.length (x.length + 1) = (List.range' 0 (x.length + 1)).filter (posF x c) := by
  rw [occ_eq]
  have := occ_run (x := x) (c := c) (x.length + 1) 0 (#[], 0) (Nat.le_refl _) (Nat.le_refl _) (by omega)
  simpa using this
theorem sub_mem {a b k : Nat} (h : k ∈ (strSub x a b).cps.toList) : ∃ i, a ≤ i ∧ i < b ∧ x.cps.toList[i]? = some k := by
  rw [StrLaws.strSub_toList] at h
  obtain ⟨j, hj⟩ := List.getElem?_of_mem h
  rw [List.getElem?_take] at hj
  split at hj
  · rw [List.getElem?_drop] at hj
    exact ⟨a + j, by omega, by omega, hj⟩
  · cases hj
theorem parts_free : ∀ {cuts : List Nat} {a f : Nat}, ChainTo x ⟨#[c]⟩ x.length a cuts f → (∀ i, a ≤ i → x.cps.toList[i]? = some c → i ∈ cuts) → ∀ p ∈ partsFrom x 1 a cuts, c ∉ p.cps.toList
  | [], a, f, _, h, p, hp => by
    rw [List.mem_singleton.mp hp]
    intro hc
    obtain ⟨i, h1, _, h3⟩ := sub_mem hc
    exact absurd (h i h1 h3) List.not_mem_nil
  | b :: r, a, f, hch, h, p, hp => by
    have low : ∀ {r : List Nat} {a f : Nat}, ChainTo x ⟨#[c]⟩ x.length a r f → ∀ i ∈ r, a ≤ i := fun {r} => by
      induction r with
      | nil => exact fun _ i hi => absurd hi List.not_mem_nil
      | cons d r ih =>
        intro a f hc i hi
        rcases List.mem_cons.mp hi with rfl | hi
        · exact hc.1
        · exact Nat.le_trans hc.1 (Nat.le_trans (Nat.le_add_right _ _) (ih hc.2.2 i hi))
    rcases List.mem_cons.mp hp with rfl | hp
    · intro hc
      obtain ⟨i, h1, h2, h3⟩ := sub_mem hc
      rcases List.mem_cons.mp (h i h1 h3) with rfl | hi
      · omega
      · have := low hch.2.2 i hi
        have e1 : (⟨#[c]⟩ : Str).length = 1 := rfl
        omega
    · refine parts_free (cuts := r) (a := b + 1) hch.2.2 (fun i h1 h3 => ?_) p hp
      rcases List.mem_cons.mp (h i (by have := hch.1; omega) h3) with rfl | hi
      · omega
      · exact hi
theorem split_free (hc : c < 256) : ∀ p ∈ Txt.split x ⟨#[c]⟩, c ∉ p.cps.toList := by
  intro p hp
  have k1 : Builtin.Str.strKind ⟨#[c]⟩ = 1 := by
    unfold Builtin.Str.strKind
    rw [if_pos (by simpa using hc)]
  have k2 : 1 ≤ Builtin.Str.strKind x := by
    unfold Builtin.Str.strKind
    split
    · exact Nat.le_refl _
    · split <;> decide
  have none : (occurrences x ⟨#[c]⟩ 0 x.length (x.length + 1)).isEmpty = true → c ∉ x.cps.toList := fun h hm => by
    obtain ⟨i, hi⟩ := List.getElem?_of_mem hm
    have hl : i < x.length := by
      have := (List.getElem?_eq_some_iff.mp hi).1
      simpa [Str.length] using this
    rw [occ_all, List.isEmpty_iff] at h
    have : i ∈ (List.range' 0 (x.length + 1)).filter (posF x c) := List.mem_filter.mpr ⟨by simp; omega, decide_eq_true hi⟩
    rw [h] at this
    exact absurd this List.not_mem_nil
  unfold Txt.split at hp
  split at hp
  · rename_i h
    rw [List.mem_singleton.mp hp]
    intro hm
    rw [Bool.or_eq_true, decide_eq_true_iff, decide_eq_true_iff] at h
    have e1 : (⟨#[c]⟩ : Str).length = 1 := rfl
    rcases h with h | h
    · obtain ⟨i, hi⟩ := List.getElem?_of_mem hm
      have := (List.getElem?_eq_some_iff.mp hi).1
      have e2 : x.cps.toList.length = x.length := by simp [Str.length]
      omega
    · omega
  · split at hp
    · rename_i h
      rw [List.mem_singleton.mp hp]
      exact none h
    · obtain ⟨f, hch⟩ := occ_chain x ⟨#[c]⟩ (x.length + 1)
      rw [partsBetween_eq] at hp
      refine parts_free (a := 0) hch (fun i _ h3 => ?_) p hp
      rw [occ_all]
      refine List.mem_filter.mpr ⟨?_, decide_eq_true h3⟩
      have := (List.getElem?_eq_some_iff.mp h3).1
      have e2 : x.cps.toList.length = x.length := by simp [Str.length]
      simp
      omega
theorem split_ne : Txt.split x ⟨#[c]⟩ ≠ [] := by
  unfold Txt.split
  split
  · exact List.cons_ne_nil _ _
  · split
    · exact List.cons_ne_nil _ _
    · rw [partsBetween_eq]
      obtain ⟨p, r, e⟩ := StrLaws.partsFrom_ne x (⟨#[c]⟩ : Str).length 0 (occurrences x ⟨#[c]⟩ 0 x.length (x.length + 1))
      rw [e]
      exact List.cons_ne_nil _ _
theorem cut_one_way : ∀ {p q A B : List Nat}, p ++ c :: A = q ++ c :: B → c ∉ p → c ∉ q → p = q ∧ A = B
  | [], [], _, _, e, _, _ => ⟨rfl, (List.cons.inj e).2⟩
  | [], b :: q, _, _, e, _, hq => absurd (by rw [(List.cons.inj e).1]; exact List.mem_cons_self ..) hq
  | a :: p, [], _, _, e, hp, _ => absurd (by rw [← (List.cons.inj e).1]; exact List.mem_cons_self ..) hp
  | a :: p, b :: q, A, B, e, hp, hq => by
    obtain ⟨e1, e2⟩ := List.cons.inj e
    obtain ⟨h1, h2⟩ := cut_one_way e2 (fun z => hp (List.mem_cons_of_mem _ z)) fun z => hq (List.mem_cons_of_mem _ z)
    exact ⟨by rw [e1, h1], h2⟩
theorem join_inj : ∀ {ps qs : List Str}, ps ≠ [] → qs ≠ [] → (∀ p ∈ ps, c ∉ p.cps.toList) → (∀ p ∈ qs, c ∉ p.cps.toList) → Str.join ⟨#[c]⟩ ps = Str.join ⟨#[c]⟩ qs → ps = qs
  | [], _, h, _, _, _, _ => absurd rfl h
  | _, [], _, h, _, _, _ => absurd rfl h
  | [p], [q], _, _, _, _, e => by
    have e : p = q := e
    rw [e]
  | [p], q :: q2 :: r, _, _, hp, _, e => by
    have e : p = q ++ ⟨#[c]⟩ ++ Str.join ⟨#[c]⟩ (q2 :: r) := e
    refine absurd ?_ (hp p (List.mem_singleton.mpr rfl))
    rw [e]
    simp [Str.cps_append]
  | p :: p2 :: r, [q], _, _, _, hq, e => by
    have e : p ++ ⟨#[c]⟩ ++ Str.join ⟨#[c]⟩ (p2 :: r) = q := e
    refine absurd ?_ (hq q (List.mem_singleton.mpr rfl))
    rw [← e]
    simp [Str.cps_append]
  | p :: p2 :: r, q :: q2 :: t, _, _, hp, hq, e => by
    have e : p ++ ⟨#[c]⟩ ++ Str.join ⟨#[c]⟩ (p2 :: r) = q ++ ⟨#[c]⟩ ++ Str.join ⟨#[c]⟩ (q2 :: t) := e
    have e2 := congrArg (fun s : Str => s.cps.toList) e
    simp only [Str.cps_append, Array.toList_append, List.append_assoc] at e2
    obtain ⟨h1, h2⟩ := cut_one_way (c := c) (p := p.cps.toList) (q := q.cps.toList) e2 (hp p (List.mem_cons_self ..)) (hq q (List.mem_cons_self ..))
    have ep : p = q := Str.ext' (Array.toList_inj.mp h1)
    have er := join_inj (List.cons_ne_nil _ _) (List.cons_ne_nil _ _) (fun x hx => hp x (List.mem_cons_of_mem _ hx)) (fun x hx => hq x (List.mem_cons_of_mem _ hx)) (Str.ext' (Array.toList_inj.mp h2))
    rw [ep, er]
theorem split_join {ps : List Str} (hc : c < 256) (h0 : ps ≠ []) (h : ∀ p ∈ ps, c ∉ p.cps.toList) : Txt.split (Str.join ⟨#[c]⟩ ps) ⟨#[c]⟩ = ps :=
  join_inj split_ne h0 (split_free hc) h (join_split _ _)
theorem join_eq (sep : Str) (ys : List Str) : Txt.join sep ys = Str.join sep ys := StrLaws.glued_eq_join sep ys
end
end L2

namespace L2
open PySem PySem.Spec PyProof.Rows
section
variable {X : Cx} {pins : List (Addr × Obj)} {σ : St} {H : Hp} {s : Shared} {ea : Addr}
end
section
variable {X : Cx} {k : Nat} {f : Addr} {fd : FuncData} {ps : List Str} {sp : Sp} {x y : Str} {p yp ap pos : Pos} {e : Expr} {es : List Expr} {t : TA} {i : Nat}
end
section
variable {X : Cx} {body : List Stmt} {tb : (St → Hp → Prop) → (St → XK) → St → Hp → Prop} {cx n z : Str} {c : Value} {cp np zp zp2 hp pos : Pos} {j l : Nat}
end
end L2

namespace L2
open PySem PySem.Spec PyProof.Rows
/-! ### isinstance of a caught exception -/
section
open PySem.W PySem.Calls PySem.Builtin PySem.Builtin.ObjectAttr PySem.Builtin.Getset_descriptor
variable {K : PySem.W.Frag} {prog : Program} {w : World} {A : Around} {E : Value → Shared → Prop} {s : Shared} {ea C : Addr}
end
end L2

namespace L2
open PySem PySem.Spec PyProof.Rows
/-! ### list(d.values()), the keys whole numbers -/
section
variable {X : Cx}
end
end L2

namespace L2
open PySem PySem.Spec PyProof.Rows
/-! ### try: .. except C: .., the exception not named -/
section
variable {X : Cx} {body hb : List Stmt} {b₀ : Stmt} {tb : (St → Hp → Prop) → (St → XK) → St → Hp → Prop} {th : TS} {cx : Str} {c : Value} {cp hp pos : Pos}
end
end L2

namespace L2
open PySem PySem.Spec PyProof.Rows PySem.W
/-! ### all sets within a set, size by size -/
end L2

namespace L2
open PySem PySem.Spec PyProof.Rows
section
variable {X : Cx} {K : PySem.W.Frag}
end
/-! ### what a set settles, told by the sets that keep the rules; keys -/
/-! keys -/
end L2

namespace L2
open PySem PySem.Spec PyProof.Rows
/-! ### what a set settles, as a number; gains part by part -/
end L2

namespace L2
open PySem PySem.Spec PyProof.Rows
end L2

namespace L2
open PySem PySem.Spec PyProof.Rows
section
variable {X : Cx} {K : PySem.W.Frag}
theorem op_inKN (h : X.K = K) : OpR X (compareOp .In) (rIn K false) := h ▸ op_in_seq
end
/-! ### keys told by the sets that keep the rules -/
end L2

namespace L2
open PySem PySem.Spec PyProof.Rows
/-! ### every set is unfolded; gains told by the sets that keep the rules -/
end L2

namespace L2
open PySem PySem.Spec PyProof.Rows
/-! ### what is told twice, and the tree of cuts -/
/-! the run by levels -/
/-! trees -/
end L2

namespace L2
open PySem PySem.Spec PyProof.Rows
/-! ### the cover of a cover is the cover -/
/-! keys hang on what the rules say alone -/
end L2

namespace L2
open PySem PySem.Spec PyProof.Rows
/-! ### parts by the cover: lefts as they are first met, what stands with each -/
/-! ### a key more, and those within others left out -/
/-! ### what the defs promise -/
end L2

namespace L2
open PySem PySem.Spec PyProof.Rows
end L2

namespace L2
open PySem PySem.Spec PyProof.Rows
/-! ### pairs and trees in the heap -/
/-! ### promises -/
end L2

namespace L2
open PySem PySem.Spec PyProof.Rows
/-! ### names of columns, sets as texts (k82) -/
noncomputable def noS : Str := ⟨#[]⟩
structure NM (nms : List Str) : Prop where
  l1 : 1 ≤ nms.length
  l7 : nms.length ≤ 7
  nd : nms.Nodup
  ne : ∀ n ∈ nms, n.cps.toList ≠ []
  low : ∀ n ∈ nms, ∀ c ∈ n.cps.toList, 97 ≤ c ∧ c ≤ 122
  len : ∀ n ∈ nms, n.length ≤ 8
noncomputable def namN (nms : List Str) (s : Nat) : List Str := (colsN s).map fun c => nms.getD c noS
theorem cols_up : ∀ s, s < 128 → (colsN s).Pairwise (· < ·) := by decide +kernel
theorem cols_or : ∀ k, k < 7 → ∀ a, a < 2 ^ k → colsN (a ||| 2 ^ k) = colsN a ++ [k] := by decide +kernel
section
variable {nms : List Str} {s : Nat}
theorem cols_lt (N : NM nms) (hs : s < 2 ^ nms.length) {c : Nat} (h : c ∈ colsN s) : c < nms.length := by
  have := pow7 N.l7
  exact hasb_lt hs ((cols_mem (by omega) c).mp h)
theorem small128 (N : NM nms) (hs : s < 2 ^ nms.length) : s < 128 := by
  have := pow7 N.l7
  omega
theorem getD_nm (h : s < nms.length) : nms.getD s noS ∈ nms ∧ nms[s]? = some (nms.getD s noS) := by
  rw [List.getD_eq_getElem?_getD, List.getElem?_eq_getElem h]
  exact ⟨List.getElem_mem h, rfl⟩
theorem nm_inj (N : NM nms) {a b : Nat} (ha : a < nms.length) (hb : b < nms.length) (e : nms.getD a noS = nms.getD b noS) : a = b := by
  have h1 := (getD_nm ha).2
  have h2 := (getD_nm hb).2
  rw [e, ← h2] at h1
  exact (List.getElem?_inj ha N.nd).mp h1
theorem in_mem (N : NM nms) (hs : s < 2 ^ nms.length) {w : Str} (h : w ∈ namN nms s) : w ∈ nms := by
  obtain ⟨c, hc, rfl⟩ := List.mem_map.mp h
  exact (getD_nm (cols_lt N hs hc)).1
/-- once some words are those of a set, the next one is above it -/
theorem next_up (N : NM nms) (hs : s < 2 ^ nms.length) {a i : Nat} {ws : List Str} {w : Str} (ha : a < 2 ^ nms.length) (e : ws = namN nms s) (et : ws.take i = namN nms a) (ew : ws[i]? = some w) : ∃ k, k < nms.length ∧ w = nms.getD k noS ∧ a < 2 ^ k := by
  rw [e] at ew et
  unfold namN at ew et
  rw [List.getElem?_map] at ew
  cases ek : (colsN s)[i]? with
  | none => rw [ek] at ew; cases ew
  | some k =>
    rw [ek] at ew
    have hk := cols_lt N hs (List.mem_of_getElem? ek)
    refine ⟨k, hk, (Option.some.inj ew).symm, ?_⟩
    refine Nat.lt_pow_two_of_testBit _ fun j hj => ?_
    cases tj : a.testBit j with
    | false => rfl
    | true =>
      exfalso
      have hja : j ∈ colsN a := (cols_mem (small128 N ha) j).mpr tj
      have hjl := cols_lt N ha hja
      have : nms.getD j noS ∈ ((colsN s).map fun c => nms.getD c noS).take i := by rw [et]; exact List.mem_map.mpr ⟨j, hja, rfl⟩
      rw [← List.map_take] at this
      obtain ⟨j', hj', e'⟩ := List.mem_map.mp this
      have hj'l := cols_lt N hs (List.mem_of_mem_take hj')
      obtain rfl := nm_inj N hj'l hjl e'
      obtain ⟨q, hq⟩ := List.getElem?_of_mem hj'
      rw [List.getElem?_take] at hq
      split at hq
      · rename_i hqi
        have pw := cols_up s (small128 N hs)
        rw [List.pairwise_iff_getElem] at pw
        obtain ⟨l1, e1⟩ := List.getElem?_eq_some_iff.mp hq
        obtain ⟨l2, e2⟩ := List.getElem?_eq_some_iff.mp ek
        have := pw q i l1 l2 hqi
        rw [e1, e2] at this
        omega
      · cases hq
theorem in_or (N : NM nms) {a k : Nat} (hk : k < nms.length) (ha : a < 2 ^ k) : namN nms (a ||| 2 ^ k) = namN nms a ++ [nms.getD k noS] := by
  unfold namN
  rw [cols_or k (by have := N.l7; omega) a ha, List.map_append]
  rfl
theorem in_inj (N : NM nms) {a b : Nat} (ha : a < 2 ^ nms.length) (hb : b < 2 ^ nms.length) (e : namN nms a = namN nms b) : a = b := by
  have half : ∀ {a b : Nat}, a < 2 ^ nms.length → b < 2 ^ nms.length → namN nms a = namN nms b → ∀ c, HasB a c → HasB b c := fun {a b} ha hb e c hc => by
    have h1 : c ∈ colsN a := (cols_mem (small128 N ha) c).mpr hc
    have : nms.getD c noS ∈ namN nms b := by rw [← e]; exact List.mem_map.mpr ⟨c, h1, rfl⟩
    obtain ⟨c', h2, e2⟩ := List.mem_map.mp this
    obtain rfl := nm_inj N (cols_lt N hb h2) (cols_lt N ha h1) e2
    exact (cols_mem (small128 N hb) _).mp h2
  exact bits_eq fun c => ⟨half ha hb e c, half hb ha e.symm c⟩
end
end L2

namespace L2
open PySem PySem.Spec PyProof.Rows
section
variable {X : Cx}
end
end L2

namespace L2
open PySem PySem.Spec PyProof.Rows
/-! ### the book of all choices by blocks (k24, k33) -/
end L2

namespace L2
open PySem PySem.Spec PyProof.Rows
section
variable {X : Cx} {K : PySem.W.Frag} {pins : List (Addr × Obj)} {σ : St} {H : Hp} {s : Shared}
end
/-! the cell, told exactly -/
noncomputable def cellV (ns : List Int) (k : Nat) : Nat := (ns.getD k 0 % 2147483629).toNat
noncomputable def cellN (ns : List Int) (k : Nat) : Nat := if k < ns.length then cellV ns k else if 0 < ns.length then ((k * k * 48271 + 11 + cellV ns (k % ns.length) * 69621) * (k * k * 48271 + 11 + cellV ns (k % ns.length) * 69621)) % 2147483629 else ((k * k * 48271 + 11) * (k * k * 48271 + 11)) % 2147483629
theorem cellV_eq {ns : List Int} {k c : Nat} (hk : k < ns.length) (e : ns[k] % 2147483629 = (c : Int)) : cellV ns k = c := by
  unfold cellV
  rw [List.getD_eq_getElem?_getD, List.getElem?_eq_getElem hk]
  show (ns[k] % 2147483629).toNat = c
  rw [e, Int.toNat_natCast]
theorem cellN_lt (ns : List Int) (k : Nat) : cellN ns k < 2147483629 := by
  unfold cellN
  split
  · unfold cellV
    have h1 := Int.emod_lt_of_pos (ns.getD k 0) (show (0 : Int) < 2147483629 by decide)
    have h2 := Int.emod_nonneg (ns.getD k 0) (show (2147483629 : Int) ≠ 0 by decide)
    omega
  · split
    · exact Nat.mod_lt _ (by decide)
    · exact Nat.mod_lt _ (by decide)
noncomputable def spCellD (K : PySem.W.Frag) : Sp := fun vs H Q _ => ∃ (sc : Addr) (ns : List Int) (k : Nat), vs = [.ref sc, vN k] ∧ SqL K H sc (ns.map V.int) ∧ k ≤ 1000 ∧ Q (vN (cellN ns k)) H
theorem cellD_imp {K : PySem.W.Frag} (vs : List V) (H : Hp) (Q : VK) (E : XK) (h : spCellAt K vs H Q E) : spCellD K vs H Q E := by
  obtain ⟨sc, ns, k, e, hS, hk, q⟩ := h
  exact ⟨sc, ns, k, e, hS, hk, q _ (cellN_lt ns k)⟩
/-! rows keep rules -/
end L2

namespace L2
open PySem PySem.Spec PyProof.Rows
/-! ### try: .. except C as e: a block that uses e -/
section
variable {X : Cx} {body hb : List Stmt} {b₀ : Stmt} {tb : (St → Hp → Prop) → (St → XK) → St → Hp → Prop} {th : TS} {cx n : Str} {c : Value} {cp hp pos : Pos} {l : Nat}
end
/-! ### lengths -/
theorem join_ok {sep : Str} {ys : List Str} (h : (ys.map (·.length)).sum + ys.length * sep.length ≤ 1000) : JoinOk sep ys = true := by
  unfold JoinOk
  rw [Bool.not_eq_true']
  show decide (_ > sizeLine) = false
  rw [StrLaws.joinTotal, decide_eq_false]
  have := sizeLine_eq
  omega
theorem sum_le {ys : List Str} {d : Nat} (h : ∀ y ∈ ys, y.length ≤ d) : (ys.map (·.length)).sum ≤ ys.length * d := by
  induction ys with
  | nil => simp
  | cons y ys ih =>
    rw [List.map_cons, List.sum_cons, List.length_cons, Nat.succ_mul]
    have h1 := h y (List.mem_cons_self ..)
    have h2 := ih fun z hz => h z (List.mem_cons_of_mem _ hz)
    omega
section
variable {nms : List Str} {s : Nat}
theorem nam_len (N : NM nms) (hs : s < 2 ^ nms.length) : (namN nms s).length ≤ 7 := by
  unfold namN
  rw [List.length_map]
  have : ∀ s, s < 128 → (colsN s).length ≤ 7 := by decide +kernel
  exact this s (small128 N hs)
theorem in_range : ∀ n, n < 8 → ∀ s, s < 2 ^ n → (List.range n).filter (hasB s) = colsN s := by decide +kernel
end
/-! ### promises -/
noncomputable def NAt (K : PySem.W.Frag) (H : Hp) (np : Addr) (nms : List Str) : Prop := SqL K H np (nms.map V.str)
noncomputable def spSetNamed (K : PySem.W.Frag) : Sp := fun vs H Q _ => ∃ (np wp : Addr) (nms ws : List Str), vs = [.ref np, .ref wp] ∧ NAt K H np nms ∧ NM nms ∧ SqL K H wp (ws.map V.str) ∧ ws.length ≤ 1000 ∧
  (∀ s, s < 2 ^ nms.length → ws = namN nms s → Q (vN s) H) ∧ ((∀ s, s < 2 ^ nms.length → ws ≠ namN nms s) → Q .non H)
noncomputable def spNamesIn (K : PySem.W.Frag) : Sp := fun vs H Q _ => ∃ (np : Addr) (nms : List Str) (s : Nat), vs = [.ref np, vN s] ∧ NAt K H np nms ∧ NM nms ∧ s < 2 ^ nms.length ∧ ∀ (l : Addr) (H' : Hp), Same H H' → H l = none → H' l = some (.lst ((namN nms s).map V.str)) → Q (.ref l) H'
end L2

namespace L2
open PySem PySem.Spec PyProof.Rows
theorem flat_str (l : List Str) : (l.map V.str).all flatV = true := by
  rw [List.all_map, List.all_eq_true]
  exact fun _ _ => rfl
theorem inV_str {x : Str} {l : List Str} : inV (.str x) (l.map V.str) = decide (x ∈ l) := by
  unfold inV
  rw [List.any_map, Bool.eq_iff_iff, List.any_eq_true, decide_eq_true_iff]
  constructor
  · rintro ⟨y, hy, e⟩
    have e : (y == x) = true := e
    rw [← eq_of_beq e]
    exact hy
  · intro h
    exact ⟨x, h, beq_self_eq_true x⟩
section
variable {X : Cx} {K : PySem.W.Frag}
/-- names.index(word) -/
theorem mt_indexS (hK : X.K = K) : MtR X "list.index" (fun x vs H Q => ∃ (p : Addr) (l : List Str) (k : Nat), x = .ref p ∧ SqL K H p (l.map V.str) ∧ l.length ≤ 1000 ∧ l.Nodup ∧ k < l.length ∧ vs = [.str (l.getD k noS)] ∧ Q (vN k) H) := by
  subst hK
  intro pins s σ H x vs v us Q I rx rv h
  obtain ⟨p, l, k, rfl, hq, hl, nd, hk, rfl, q⟩ := h
  cases rx
  obtain ⟨u, rfl, ru⟩ := Vals.one rv
  obtain ⟨its, r, pl, hz⟩ := I.list hq
  obtain ⟨⟨c, d, dt, sl⟩, n, e, h1, h2, h3⟩ := pl
  obtain rfl : c = _ := h1
  obtain rfl : d = _ := h2
  obtain rfl : dt = _ := h3
  have len : its.length = l.length := by rw [← r.length, List.length_map]
  have at_ : ∀ j (hj : j < its.toArray.size), eqU (.str (l.getD k noS)) its.toArray[j] = decide (l.getD j noS = l.getD k noS) := fun j hj => by
    have hj' : j < l.length := by rw [← len]; simpa using hj
    obtain ⟨w, hw, rw'⟩ := r.get (i := j) (x := V.str l[j]) (by rw [List.getElem?_map, List.getElem?_eq_getElem hj']; rfl)
    have : its.toArray[j] = w := by
      rw [List.getElem?_eq_getElem (by simpa using hj)] at hw
      simpa using hw
    have ej : l.getD j noS = l[j] := by rw [List.getD_eq_getElem?_getD, List.getElem?_eq_getElem hj']; rfl
    rw [this, eqU_of rw' rfl, ej]
    show (l[j] == l.getD k noS) = decide (l[j] = l.getD k noS)
    rw [Bool.eq_iff_iff, beq_iff_eq, decide_eq_true_iff]
  refine call_meets F.slot_list_index ⟨_, e, rfl⟩ F.entry_list_index (F.args_list_index_2 _ _) (SeqAt.list_indexAt p its.toArray n none sl u (eqU (.str (l.getD k noS))) k (by rw [List.size_toArray, len]; exact hk) (by omega) ?_ fun m hm hlt => ?_)
    ⟨e, fun y hy => mem_eqAt ru rfl r (flat_str l) y (by simpa using hy), ⟨vN k, H, I.tok _, ⟨_, rfl⟩, q⟩⟩
  · rw [at_, decide_eq_true_iff]
  · rw [at_, decide_eq_false_iff_not]
    intro z
    have hm' : m < l.length := by rw [← len]; simpa using hm
    have e1 : l.getD m noS = l[m] := by rw [List.getD_eq_getElem?_getD, List.getElem?_eq_getElem hm']; rfl
    have e2 : l.getD k noS = l[k] := by rw [List.getD_eq_getElem?_getD, List.getElem?_eq_getElem hk]; rfl
    have h1 : l[m]? = l[k]? := by rw [List.getElem?_eq_getElem hm', List.getElem?_eq_getElem hk, ← e1, ← e2, z]
    have := (List.getElem?_inj hm' nd).mp h1
    omega
end
end L2

namespace L2
open PySem PySem.Spec PyProof.Rows
/-! ### the names that the law draws; the texts that write no set (k82) -/
noncomputable def sng (c : Nat) : Str := ⟨#[c]⟩
noncomputable def letS : Str := "abcdefghijklmnopqrstuvwxyz"
theorem let_at : ∀ i, i < 26 → letS.cps.toList[i]? = some (97 + i) := by decide +kernel
theorem join_sng : ∀ l : List Nat, Str.join noS (l.map sng) = ⟨l.toArray⟩
  | [] => rfl
  | [c] => rfl
  | c :: d :: r => by
    have h := join_sng (d :: r)
    have e : Str.join noS ((c :: d :: r).map sng) = sng c ++ noS ++ Str.join noS ((d :: r).map sng) := rfl
    rw [e, h]
    apply congrArg Str.mk
    show (#[c] ++ #[]) ++ (d :: r).toArray = (c :: d :: r).toArray
    simp
theorem sng_ok (l : List Nat) (h : l.length ≤ 100) : JoinOk noS (l.map sng) = true := by
  refine join_ok ?_
  have h2 := sum_le (d := 1) (ys := l.map sng) fun y hy => by
    obtain ⟨c, _, rfl⟩ := List.mem_map.mp hy
    exact Nat.le_refl _
  have e : noS.length = 0 := rfl
  rw [List.length_map] at h2 ⊢
  rw [e]
  omega
noncomputable def chkNM (l : List Str) : Bool := decide (1 ≤ l.length) && decide (l.length ≤ 7) && decide l.Nodup && l.all fun n => !n.cps.toList.isEmpty && n.cps.toList.all (fun c => decide (97 ≤ c) && decide (c ≤ 122)) && decide (n.length ≤ 8)
theorem chk_nm {l : List Str} (h : chkNM l = true) : NM l := by
  unfold chkNM at h
  simp only [Bool.and_eq_true, decide_eq_true_iff, List.all_eq_true, Bool.not_eq_true', List.isEmpty_eq_false_iff] at h
  obtain ⟨⟨⟨h1, h2⟩, h3⟩, h4⟩ := h
  exact ⟨h1, h2, h3, fun n hn => (h4 n hn).1.1, fun n hn c hc => (h4 n hn).1.2 c hc, fun n hn => (h4 n hn).2⟩
noncomputable def oddL (r : Nat) : List Nat := (List.range 8).map fun j => 97 + (r + 3 * j) % 26
noncomputable def oddT (r : Nat) : Str := ⟨(oddL r).toArray⟩
noncomputable def oddN (r n : Nat) : List Str := (List.range n).map fun k => Txt.slice (oddT r) (some ((k % 5 : Nat) : Int)) (some ((k % 5 + 1 + k / 5 : Nat) : Int))
theorem odd_nm : ∀ r, r < 26 → ∀ n, n < 8 → 1 ≤ n → chkNM (oddN r n) = true := by decide +kernel
noncomputable def evB (c size : Nat) : List Nat := (List.range size).map fun j => 97 + (c / (j + 1) + j * j) % 26
noncomputable def evL (c size at_ k : Nat) : List Nat := (evB c size).set at_ (97 + (c / 96 + k) % 26)
noncomputable def evS (c size at_ k : Nat) : Str := ⟨(evL c size at_ k).toArray⟩
noncomputable def evN (c size at_ n : Nat) : List Str := (List.range n).map (evS c size at_)
theorem ev_len (c size at_ k : Nat) : (evL c size at_ k).length = size := by unfold evL evB; rw [List.length_set, List.length_map, List.length_range]
theorem ev_nm {c size at_ n : Nat} (h : at_ < size) (hs : size ≤ 8) (h1 : 1 ≤ n) (h7 : n ≤ 7) : NM (evN c size at_ n) := by
  have ln : (evN c size at_ n).length = n := by unfold evN; rw [List.length_map, List.length_range]
  have low : ∀ k, ∀ x ∈ evL c size at_ k, 97 ≤ x ∧ x ≤ 122 := fun k x hx => by
    unfold evL at hx
    rcases List.mem_or_eq_of_mem_set hx with hx | rfl
    · obtain ⟨j, _, rfl⟩ := List.mem_map.mp hx
      omega
    · omega
  have mem : ∀ x ∈ evN c size at_ n, ∃ k, x = evS c size at_ k := fun x hx => by
    obtain ⟨k, _, rfl⟩ := List.mem_map.mp hx
    exact ⟨k, rfl⟩
  have tl : ∀ k, (evS c size at_ k).cps.toList = evL c size at_ k := fun k => List.toList_toArray ..
  refine ⟨by omega, by omega, ?_, fun x hx => ?_, fun x hx => ?_, fun x hx => ?_⟩
  · unfold evN
    refine List.pairwise_map.mpr (List.Pairwise.imp_of_mem (fun {a b} ha hb (hab : a < b) e => ?_) (List.pairwise_lt_range))
    have ha := List.mem_range.mp ha
    have hb := List.mem_range.mp hb
    have e2 : evL c size at_ a = evL c size at_ b := by rw [← tl, ← tl, e]
    have g : ∀ k, (evL c size at_ k)[at_]? = some (97 + (c / 96 + k) % 26) := fun k => by
      unfold evL
      rw [List.getElem?_set_self (by unfold evB; rw [List.length_map, List.length_range]; exact h)]
    have e3 := g a
    rw [e2, g b] at e3
    have := Option.some.inj e3
    omega
  · obtain ⟨k, rfl⟩ := mem x hx
    rw [tl]
    intro z
    have := ev_len c size at_ k
    rw [z] at this
    simp at this
    omega
  · obtain ⟨k, rfl⟩ := mem x hx
    rw [tl]
    exact low k
  · obtain ⟨k, rfl⟩ := mem x hx
    show (evL c size at_ k).toArray.size ≤ 8
    rw [List.size_toArray, ev_len]
    exact hs
/-! upper -/
/-! plain texts -/
structure Pl (n : Nat) (t : Str) : Prop where
  len : t.length ≤ n
  low : ∀ c ∈ t.cps.toList, c < 256
section
variable {nms : List Str} {s : Nat}
theorem nm_pl (N : NM nms) {w : Str} (h : w ∈ nms) : Pl 8 w := ⟨N.len w h, fun c hc => by have := N.low w h c hc; omega⟩
theorem low_names (N : NM nms) (hs : s < 2 ^ nms.length) : ∀ p ∈ namN nms s, ∀ c ∈ p.cps.toList, 97 ≤ c ∧ c ≤ 122 := fun p hp => N.low p (in_mem N hs hp)
end
/-! a list of texts as data -/
theorem same_dS (a b : Str) : same (PyData.str a) (PyData.str b) = decide (a = b) := by
  simp only [same]
  rw [Bool.eq_iff_iff]; simp
theorem noMix_dS (a b : Str) : SeqAt.noMix (PyData.str a) (PyData.str b) = true := by simp [SeqAt.noMix]
theorem canLay_dS {a : Str} (h : ∀ c ∈ a.cps.toList, c < 256) : PyData.canLay0 (PyData.str a) = true := by
  simp only [PyData.canLay0]
  unfold PyData.strOk
  rw [← Array.all_toList, List.all_eq_true]
  intro c hc
  have := h c hc
  exact decide_eq_true (by omega)
theorem canLay_strs : ∀ ws : List Str, (∀ w ∈ ws, ∀ c ∈ w.cps.toList, c < 256) → PyData.canLayAll0 (ws.map PyData.str) = true
  | [], _ => by simp [PyData.canLayAll0]
  | x :: xs, h => by
    have h1 := canLay_dS (h x (List.mem_cons_self ..))
    have h2 := canLay_strs xs fun w hw => h w (List.mem_cons_of_mem _ hw)
    simp only [List.map_cons, PyData.canLayAll0]
    rw [h1, h2]; rfl
theorem depth_dS (a : Str) : PyData.depth (PyData.str a) ≤ 10 := by simp [PyData.depth]
theorem shaped_strs {ws : List Str} (h : ∀ w ∈ ws, ∀ c ∈ w.cps.toList, c < 256) : SeqAt.shaped (.list (ws.map PyData.str)) = true := by
  have h2 : PyData.depth (.list (ws.map PyData.str)) ≤ 64 := by
    have := depthAll_map depth_dS ws
    simp only [PyData.depth]
    omega
  show (PyData.canLay0 (.list (ws.map PyData.str)) && decide (PyData.depth (.list (ws.map PyData.str)) ≤ 64)) = true
  rw [Bool.and_eq_true]
  exact ⟨by simp only [PyData.canLay0]; exact canLay_strs ws h, decide_eq_true h2⟩
theorem strs_dv {K : PySem.W.Frag} {H : Hp} : ∀ ws : List Str, DVs K H (ws.map V.str) (ws.map PyData.str)
  | [] => .nil
  | w :: ws => .cons (.str _) (strs_dv ws)
end L2

namespace L2
open PySem PySem.Spec PyProof.Rows
section
variable {nms : List Str} {s : Nat}
end
end L2

namespace L2
open PySem PySem.Spec PyProof.Rows
theorem Same.over {H H' : Hp} {p : Addr} {o : HO} (s : Same H H') (h : H p = Option.none) : Same H (upd H' p o) := fun a x hx => by
  rw [upd_ne (fun z => by rw [z, h] at hx; cases hx)]
  exact s a x hx
theorem ixN_nat {n j : Nat} (h : j < n) : ixN n (j : Int) = some j := by
  unfold ixN
  rw [if_pos (by omega), if_pos (by omega)]; simp
theorem let_size : letS.length ≤ sizeLine := by rw [sizeLine_eq]; decide
theorem rg2 {n i : Nat} (h : i < n) : (List.range n)[i]? = some i := by rw [List.getElem?_eq_getElem (by rw [List.length_range]; exact h), List.getElem_range]
theorem oddL_at {r i : Nat} (h : i < 8) : (oddL r)[i]? = some (97 + (r + 3 * i) % 26) := by
  unfold oddL
  rw [List.getElem?_map, rg2 h]; rfl
theorem evB_at {c size i : Nat} (h : i < size) : (evB c size)[i]? = some (97 + (c / (i + 1) + i * i) % 26) := by
  unfold evB
  rw [List.getElem?_map, rg2 h]; rfl
theorem oddN_snoc (r i : Nat) : oddN r (i + 1) = oddN r i ++ [Txt.slice (oddT r) (some ((i % 5 : Nat) : Int)) (some ((i % 5 + 1 + i / 5 : Nat) : Int))] := by
  unfold oddN
  rw [List.range_succ, List.map_append]; rfl
theorem evN_snoc (c size at_ i : Nat) : evN c size at_ (i + 1) = evN c size at_ i ++ [evS c size at_ i] := by
  unfold evN
  rw [List.range_succ, List.map_append]; rfl
end L2

namespace L2
open PySem PySem.W PyProof.Rows
namespace ST
/-! ### what the library's tree of questions comes to, where each question has an answer -/
/-! the order asked for -/
section
variable {lt : Nat → Nat → Bool}
/-! what is asked for -/
section
variable {N : Nat} (h0 : 0 < N)
include h0
end
end
end ST
end L2

namespace L2
open PySem PySem.W PyProof.Rows
namespace ST
/-! ### rows in their order -/
section
variable {prog : Program} {w : World} {A : Around} {E : Value → Shared → Prop} {s : Shared}
end
end ST
end L2

namespace L2
open PySem PySem.W PyProof.Rows
namespace SR
/-! ### the pieces of list.sort by their names -/
/-- an order: its questions and what follows from the answers -/
structure TO (L : Keyed → Keyed → Bool) : Prop where
  as_ : ∀ {x y}, L x y = true → L y x = false
  tr : ∀ {x y z}, L y x = false → L z y = false → L z x = false
section
variable {prog : Program} {w : World} {A : Around} {E : Value → Shared → Prop} {s : Shared} {κ : SortKind} {U : Keyed → Prop} {L : Keyed → Keyed → Bool}
/-! what galloping asks, as truths -/
end
end SR
end L2

namespace L2
open PySem PySem.W PyProof.Rows
namespace SR
/-! ### two sorted lists made one: mathematics -/
section
variable {L : Keyed → Keyed → Bool} {la lb out ro : List Keyed} {ia ib na nb k : Nat}
/-- not after -/
noncomputable abbrev Le (L : Keyed → Keyed → Bool) (x y : Keyed) : Prop := L y x = false
noncomputable abbrev Inc (L : Keyed → Keyed → Bool) (l : List Keyed) : Prop := l.Pairwise (Le L)
theorem Le.trans (O : TO L) {x y z : Keyed} (h : Le L x y) (g : Le L y z) : Le L x z := O.tr h g
theorem Inc.le (S : Inc L la) {i j : Nat} {x y : Keyed} (hi : la[i]? = some x) (hj : la[j]? = some y) (h : i < j) : Le L x y := by
  obtain ⟨h1, e1⟩ := List.getElem?_eq_some_iff.mp hi
  obtain ⟨h2, e2⟩ := List.getElem?_eq_some_iff.mp hj
  have := List.pairwise_iff_getElem.mp S i j h1 h2 h
  rw [e1, e2] at this
  exact this
theorem irr (O : TO L) (x : Keyed) : Le L x x := by
  show L x x = false
  cases c : L x x with
  | false => rfl
  | true => have := O.as_ c; rw [c] at this; exact this
theorem Inc.le' (O : TO L) (S : Inc L la) {i j : Nat} {x y : Keyed} (hi : la[i]? = some x) (hj : la[j]? = some y) (h : i ≤ j) : Le L x y := by
  rcases Nat.lt_or_ge i j with c | c
  · exact S.le hi hj c
  · have : i = j := by omega
    subst this
    rw [hi] at hj
    cases hj
    exact irr O x
theorem mem_drop {l : List Keyed} {i : Nat} {y : Keyed} (h : y ∈ l.drop i) : ∃ j, i ≤ j ∧ l[j]? = some y := by
  obtain ⟨j, hj⟩ := List.mem_iff_getElem?.mp h
  rw [List.getElem?_drop] at hj
  exact ⟨i + j, by omega, hj⟩
theorem mem_take {l : List Keyed} {n : Nat} {y : Keyed} (h : y ∈ l.take n) : ∃ j, j < n ∧ l[j]? = some y := by
  obtain ⟨j, hj⟩ := List.mem_iff_getElem?.mp h
  rw [List.getElem?_take] at hj
  split at hj
  · exact ⟨j, by assumption, hj⟩
  · cases hj
structure LI (L : Keyed → Keyed → Bool) (la lb out : List Keyed) (ia ib : Nat) : Prop where
  perm : out.Perm (la.take ia ++ lb.take ib)
  srt : Inc L out
  ha : ∀ x ∈ out, ∀ y ∈ la.drop ia, Le L x y
  hb : ∀ x ∈ out, ∀ y ∈ lb.drop ib, Le L x y
theorem LI.swap (I : LI L la lb out ia ib) : LI L lb la out ib ia := ⟨I.perm.trans List.perm_append_comm, I.srt, I.hb, I.ha⟩
theorem LI.take (Sa : Inc L la) (I : LI L la lb out ia ib) (k : Nat) (h : ∀ x ∈ (la.drop ia).take k, ∀ y ∈ lb.drop ib, Le L x y) : LI L la lb (out ++ (la.drop ia).take k) (ia + k) ib := by
  have sd : Inc L (la.drop ia) := List.Pairwise.sublist (List.drop_sublist ..) Sa
  have sc : Inc L ((la.drop ia).take k ++ (la.drop ia).drop k) := by rw [List.take_append_drop]; exact sd
  have sp := List.pairwise_append.mp sc
  refine ⟨?_, List.pairwise_append.mpr ⟨I.srt, sp.1, fun x hx y hy => I.ha x hx y (List.mem_of_mem_take hy)⟩, fun x hx y hy => ?_, fun x hx y hy => ?_⟩
  · rw [List.take_add]
    refine (I.perm.append_right _).trans ?_
    rw [List.append_assoc, List.append_assoc]
    exact List.Perm.append_left _ List.perm_append_comm
  · rw [← List.drop_drop] at hy
    rcases List.mem_append.mp hx with hx | hx
    · exact I.ha x hx y (List.mem_of_mem_drop hy)
    · exact sp.2.2 x hx y hy
  · rcases List.mem_append.mp hx with hx | hx
    · exact I.hb x hx y hy
    · exact h x hx y hy
theorem LI.fin (Sa : Inc L la) (Sb : Inc L lb) (I : LI L la lb out ia ib) (h : ∀ x ∈ la.drop ia, ∀ y ∈ lb.drop ib, Le L x y) : (out ++ la.drop ia ++ lb.drop ib).Perm (la ++ lb) ∧ Inc L (out ++ la.drop ia ++ lb.drop ib) := by
  have J := I.take Sa (la.length - ia) fun x hx y hy => h x (List.mem_of_mem_take hx) y hy
  have e1 : (la.drop ia).take (la.length - ia) = la.drop ia := List.take_of_length_le (by simp)
  rw [e1] at J
  have J2 := J.swap.take Sb (lb.length - ib) fun x hx y hy => by
    rw [List.drop_eq_nil_of_le (by omega)] at hy; cases hy
  rw [List.take_of_length_le (by simp)] at J2
  refine ⟨J2.perm.trans ?_, J2.srt⟩
  rw [List.take_of_length_le (by omega), List.take_of_length_le (by omega)]
  exact List.perm_append_comm
structure HI (L : Keyed → Keyed → Bool) (la lb ro : List Keyed) (na nb : Nat) : Prop where
  perm : ro.Perm (la.drop na ++ lb.drop nb)
  srt : Inc L ro
  ha : ∀ x ∈ la.take na, ∀ y ∈ ro, Le L x y
  hb : ∀ x ∈ lb.take nb, ∀ y ∈ ro, Le L x y
theorem HI.swap (I : HI L la lb ro na nb) : HI L lb la ro nb na := ⟨I.perm.trans List.perm_append_comm, I.srt, I.hb, I.ha⟩
theorem HI.drop (Sa : Inc L la) (I : HI L la lb ro na nb) (k : Nat) (hk : k ≤ na) (h : ∀ x ∈ lb.take nb, ∀ y ∈ (la.take na).drop k, Le L x y) : HI L la lb ((la.take na).drop k ++ ro) k nb := by
  have sd : Inc L (la.take na) := List.Pairwise.sublist (List.take_sublist ..) Sa
  have sc : Inc L ((la.take na).take k ++ (la.take na).drop k) := by rw [List.take_append_drop]; exact sd
  have sp := List.pairwise_append.mp sc
  have ek : (la.take na).take k = la.take k := by rw [List.take_take, Nat.min_eq_left hk]
  refine ⟨?_, List.pairwise_append.mpr ⟨sp.2.1, I.srt, fun x hx y hy => I.ha x (List.mem_of_mem_drop hx) y hy⟩, fun x hx y hy => ?_, fun x hx y hy => ?_⟩
  · have e : la.drop k = (la.take na).drop k ++ la.drop na := by
      rcases Nat.lt_or_ge la.length na with c | c
      · rw [List.take_of_length_le (by omega), List.drop_eq_nil_of_le (i := na) (by omega), List.append_nil]
      · conv => lhs; rw [← List.take_append_drop na la]
        rw [List.drop_append_of_le_length (by rw [List.length_take]; omega)]
    rw [e, List.append_assoc]
    exact I.perm.append_left _
  · rw [← ek] at hx
    rcases List.mem_append.mp hy with hy | hy
    · exact sp.2.2 x hx y hy
    · exact I.ha x (List.mem_of_mem_take hx) y hy
  · rcases List.mem_append.mp hy with hy | hy
    · exact h x hx y hy
    · exact I.hb x hx y hy
theorem HI.fin (Sa : Inc L la) (Sb : Inc L lb) (I : HI L la lb ro na nb) (h : ∀ x ∈ la.take na, ∀ y ∈ lb.take nb, Le L x y) : (la.take na ++ lb.take nb ++ ro).Perm (la ++ lb) ∧ Inc L (la.take na ++ lb.take nb ++ ro) := by
  have J := I.swap.drop Sb 0 (Nat.zero_le _) fun x hx y hy => h x hx y (List.mem_of_mem_drop hy)
  have J2 := J.swap.drop Sa 0 (Nat.zero_le _) fun x hx y hy => by rw [List.take_zero] at hx; cases hx
  rw [List.drop_zero, List.drop_zero] at J2
  rw [List.append_assoc]
  refine ⟨J2.perm.trans ?_, J2.srt⟩
  rw [List.drop_zero, List.drop_zero]
end
end SR
end L2

namespace L2
open PySem PySem.W PyProof.Rows
namespace SR
section
variable {L : Keyed → Keyed → Bool} {a b out : Array Keyed} {ia ib k : Nat} {x y : Keyed}
/-- what merging leaves alone -/
structure Kp (st st' : SortSt) : Prop where
  kind : kindOf st' = kindOf st
  arr : arrOf st' = arrOf st
  pend : pendingOf st' = pendingOf st
  failed : failedOf st' = failedOf st
theorem Kp.refl (st : SortSt) : Kp st st := ⟨rfl, rfl, rfl, rfl⟩
theorem ex_toList {a : Array Keyed} {i j : Nat} : (a.extract i j).toList = (a.toList.drop i).take (j - i) := by
  simp
theorem ex_all {a : Array Keyed} {i : Nat} : (a.extract i a.size).toList = a.toList.drop i := by
  rw [ex_toList]; exact List.take_of_length_le (by simp)
theorem get_l {a : Array Keyed} {i : Nat} : a.toList[i]? = a[i]? := by simp
theorem up (O : TO L) (Sa : Inc L a.toList) (h : a[ia]? = some x) (g : Le L y x) : ∀ z ∈ a.toList.drop ia, Le L y z := fun z hz => by
  obtain ⟨j, hj, ej⟩ := mem_drop hz
  rw [← get_l] at h
  exact g.trans O (Sa.le' O h ej hj)
noncomputable abbrev Fin (L : Keyed → Keyed → Bool) (a b r : Array Keyed) : Prop := r.toList.Perm (a.toList ++ b.toList) ∧ Inc L r.toList
noncomputable abbrev Lo (L : Keyed → Keyed → Bool) (a b out : Array Keyed) (ia ib : Nat) : Prop := LI L a.toList b.toList out.toList ia ib
theorem Lo.done (Sa : Inc L a.toList) (Sb : Inc L b.toList) (I : Lo L a b out ia ib) (h : ia = a.size ∨ ib = b.size) : Fin L a b (out ++ a.extract ia a.size ++ b.extract ib b.size) := by
  have := LI.fin Sa Sb I fun x hx y hy => by
    rcases h with h | h
    · rw [h, List.drop_eq_nil_of_le (by simp)] at hx; cases hx
    · rw [h, List.drop_eq_nil_of_le (by simp)] at hy; cases hy
  unfold Fin
  rw [Array.toList_append, Array.toList_append, ex_all, ex_all]
  exact this
theorem Lo.last (Sa : Inc L a.toList) (Sb : Inc L b.toList) (h1 : ∀ y ∈ b.toList, ∀ x, a[a.size - 1]? = some x → Le L y x) (I : Lo L a b out ia ib) (h : ia + 1 = a.size) : Fin L a b (out ++ b.extract ib b.size ++ a.extract ia a.size) := by
  have := LI.fin Sb Sa I.swap fun y hy x hx => by
    obtain ⟨j, hj, ej⟩ := mem_drop hx
    have hl := (List.getElem?_eq_some_iff.mp ej).1
    rw [Array.length_toList] at hl
    rw [get_l] at ej
    exact h1 y (List.mem_of_mem_drop hy) x (by rw [← ej]; congr 1; omega)
  unfold Fin
  rw [Array.toList_append, Array.toList_append, ex_all, ex_all]
  exact ⟨this.1.trans List.perm_append_comm, this.2⟩
end
section
variable {prog : Program} {w : World} {A : Around} {E : Value → Shared → Prop} {s : Shared} {κ : SortKind} {U : Keyed → Prop} {L : Keyed → Keyed → Bool}
end
end SR
end L2

namespace L2
open PySem PySem.W PyProof.Rows
namespace SR
section
variable {prog : Program} {w : World} {A : Around} {E : Value → Shared → Prop} {s : Shared} {κ : SortKind} {U : Keyed → Prop} {L : Keyed → Keyed → Bool}
end
end SR
end L2

namespace L2
open PySem PySem.W PyProof.Rows
namespace SR
section
variable {L : Keyed → Keyed → Bool} {a b out : Array Keyed} {na nb k : Nat} {x y : Keyed}
theorem dn (O : TO L) (Sa : Inc L a.toList) (h : a[na - 1]? = some x) (g : Le L x y) : ∀ z ∈ a.toList.take na, Le L z y := fun z hz => by
  obtain ⟨j, hj, ej⟩ := mem_take hz
  rw [← get_l] at h
  exact (Sa.le' O ej h (by omega)).trans O g
noncomputable abbrev Hi (L : Keyed → Keyed → Bool) (a b out : Array Keyed) (na nb : Nat) : Prop := HI L a.toList b.toList out.toList.reverse na nb
theorem ex0 {a : Array Keyed} {n : Nat} : (a.extract 0 n).toList = a.toList.take n := by rw [ex_toList]; rfl
theorem Hi.done (Sa : Inc L a.toList) (Sb : Inc L b.toList) (I : Hi L a b out na nb) (h : na = 0 ∨ nb = 0) : Fin L a b (a.extract 0 na ++ b.extract 0 nb ++ out.reverse) := by
  have := HI.fin Sa Sb I fun x hx y hy => by
    rcases h with h | h
    · rw [h] at hx; cases hx
    · rw [h] at hy; cases hy
  unfold Fin
  rw [Array.toList_append, Array.toList_append, ex0, ex0, Array.toList_reverse]
  exact this
theorem Hi.first (Sa : Inc L a.toList) (Sb : Inc L b.toList) (h0 : ∀ x ∈ a.toList, ∀ y, b[0]? = some y → Le L y x) (I : Hi L a b out na nb) (h : nb = 1) : Fin L a b (b.extract 0 nb ++ a.extract 0 na ++ out.reverse) := by
  have := HI.fin Sb Sa I.swap fun y hy x hx => by
    obtain ⟨j, hj, ej⟩ := mem_take hy
    rw [get_l] at ej
    exact h0 x (List.mem_of_mem_take hx) y (by rw [← ej]; congr 1; omega)
  unfold Fin
  rw [Array.toList_append, Array.toList_append, ex0, ex0, Array.toList_reverse]
  exact ⟨this.1.trans List.perm_append_comm, this.2⟩
end
section
variable {prog : Program} {w : World} {A : Around} {E : Value → Shared → Prop} {s : Shared} {κ : SortKind} {U : Keyed → Prop} {L : Keyed → Keyed → Bool}
end
end SR
end L2

namespace L2
open PySem PySem.W PyProof.Rows
namespace SR
/-! ### two neighbouring runs made one -/
section
variable {L : Keyed → Keyed → Bool}
end
section
variable {prog : Program} {w : World} {A : Around} {E : Value → Shared → Prop} {s : Shared} {κ : SortKind} {U : Keyed → Prop} {L : Keyed → Keyed → Bool}
end
end SR
end L2

namespace L2
open PySem PySem.W PyProof.Rows
namespace SR
/-! ### a run found and a run made longer, from any place on -/
section
variable {L : Keyed → Keyed → Bool} {xs : Array Keyed} {lo n q : Nat}
noncomputable def at_ (xs : Array Keyed) (k : Nat) : Keyed := (xs[k]?).getD (Value.none, Value.none)
theorem at_some {k : Nat} (h : k < xs.size) : xs[k]? = some (at_ xs k) := by
  unfold at_
  rw [Array.getElem?_eq_getElem h]
  rfl
theorem at_mir {i j : Nat} (hj : j ≤ xs.size) (k : Nat) : at_ (mirror xs i j ((j - i) / 2)) k = if i ≤ k ∧ k < j then at_ xs (i + j - 1 - k) else at_ xs k := by
  unfold at_
  rw [getElem?_mirror_all hj]
  split <;> rfl
noncomputable def Up (L : Keyed → Keyed → Bool) (xs : Array Keyed) (lo n : Nat) : Prop := ∀ i j, i < j → j < n → Le L (at_ xs (lo + i)) (at_ xs (lo + j))
noncomputable def Dn (L : Keyed → Keyed → Bool) (xs : Array Keyed) (lo n : Nat) : Prop := ∀ i j, i < j → j < n → Le L (at_ xs (lo + j)) (at_ xs (lo + i))
theorem Up.more (O : TO L) (h : Up L xs lo n) (h1 : 1 ≤ n) (g : Le L (at_ xs (lo + n - 1)) (at_ xs (lo + n))) : Up L xs lo (n + 1) := fun i j hij hj => by
  by_cases c : j < n
  · exact h i j hij c
  · have e : j = n := by omega
    subst e
    by_cases d : i = j - 1
    · rw [d, show lo + (j - 1) = lo + j - 1 by omega]; exact g
    · have := h i (j - 1) (by omega) (by omega)
      rw [show lo + (j - 1) = lo + j - 1 by omega] at this
      exact this.trans O g
theorem Dn.more (O : TO L) (h : Dn L xs lo n) (h1 : 1 ≤ n) (g : Le L (at_ xs (lo + n)) (at_ xs (lo + n - 1))) : Dn L xs lo (n + 1) := fun i j hij hj => by
  by_cases c : j < n
  · exact h i j hij c
  · have e : j = n := by omega
    subst e
    by_cases d : i = j - 1
    · rw [d, show lo + (j - 1) = lo + j - 1 by omega]; exact g
    · have := h i (j - 1) (by omega) (by omega)
      rw [show lo + (j - 1) = lo + j - 1 by omega] at this
      exact g.trans O this
structure DI (L : Keyed → Keyed → Bool) (xs : Array Keyed) (lo n q : Nat) : Prop where
  q1 : q + 1 ≤ n
  dn : Dn L xs lo n
  eq : ∀ i j, n - (q + 1) ≤ i → i < n → n - (q + 1) ≤ j → j < n → Le L (at_ xs (lo + i)) (at_ xs (lo + j))
theorem DI.one (O : TO L) (h1 : 1 ≤ n) (h : Dn L xs lo n) : DI L xs lo n 0 := ⟨by omega, h, fun i j a b c d => by
  have : i = j := by omega
  rw [this]; exact irr O _⟩
theorem Dn.turn (D : Dn L xs lo n) (hs : lo + n ≤ xs.size) : Up L (mirror xs lo (lo + n) ((lo + n - lo) / 2)) lo n := fun i j hij hj => by
  rw [at_mir hs, at_mir hs, if_pos (by omega), if_pos (by omega)]
  have := D (n - 1 - j) (n - 1 - i) (by omega) (by omega)
  rw [show lo + (n - 1 - j) = lo + (lo + n) - 1 - (lo + j) by omega, show lo + (n - 1 - i) = lo + (lo + n) - 1 - (lo + i) by omega] at this
  exact this
theorem Up.same (O : TO L) (h : Up L xs lo n) (h1 : 1 ≤ n) (g : Le L (at_ xs (lo + n - 1)) (at_ xs lo)) : ∀ i j, i < n → j < n → Le L (at_ xs (lo + i)) (at_ xs (lo + j)) := fun i j hi hj => by
  have top : Le L (at_ xs (lo + i)) (at_ xs (lo + n - 1)) := by
    by_cases c : i = n - 1
    · rw [c, show lo + (n - 1) = lo + n - 1 by omega]; exact irr O _
    · have := h i (n - 1) (by omega) (by omega)
      rwa [show lo + (n - 1) = lo + n - 1 by omega] at this
  have low : Le L (at_ xs lo) (at_ xs (lo + j)) := by
    by_cases c : j = 0
    · rw [c]; exact irr O _
    · exact h 0 j (by omega) hj
  exact (top.trans O g).trans O low
end
section
variable {prog : Program} {w : World} {A : Around} {E : Value → Shared → Prop} {s : Shared} {κ : SortKind} {U : Keyed → Prop} {L : Keyed → Keyed → Bool} {lo : Nat} {st0 st : SortSt}
structure Sg (κ : SortKind) (lo : Nat) (st0 st : SortSt) : Prop where
  kind : kindOf st = κ
  failed : failedOf st = none
  pend : pendingOf st = pendingOf st0
  perm : (arrOf st).Perm (arrOf st0)
  pre : ∀ k, k < lo → (arrOf st)[k]? = (arrOf st0)[k]?
theorem Sg.size (G : Sg κ lo st0 st) : (arrOf st).size = (arrOf st0).size := G.perm.size_eq
theorem Sg.u (G : Sg κ lo st0 st) (u0 : ∀ x ∈ (arrOf st0).toList, U x) {k : Nat} (h : k < (arrOf st).size) : U (at_ (arrOf st) k) := by
  have := at_some h
  exact u0 _ ((Array.perm_iff_toList_perm.mp G.perm).mem_iff.mp (by rw [← Array.getElem?_toList] at this; exact List.mem_of_getElem? this))
end
end SR
end L2

namespace L2
open PySem PySem.W PyProof.Rows
namespace SR
/-! ### the runs waiting, and the whole of the sort -/
section
variable {L : Keyed → Keyed → Bool}
noncomputable def Runs (L : Keyed → Keyed → Bool) : Nat → List (Nat × Nat × Nat) → List (List Keyed) → Prop
  | _, [], [] => True
  | o, p :: ps, r :: rs => p.1 = o ∧ p.2.1 = r.length ∧ 1 ≤ r.length ∧ Inc L r ∧ Runs L (o + r.length) ps rs
  | _, _, _ => False
theorem Runs.len : ∀ {o : Nat} {ps : List (Nat × Nat × Nat)} {rs : List (List Keyed)}, Runs L o ps rs → ps.length = rs.length ∧ rs.length ≤ rs.flatten.length
  | _, [], [], _ => ⟨rfl, Nat.le_refl _⟩
  | _, p :: ps, r :: rs, h => by
    obtain ⟨_, _, h3, _, h5⟩ := h
    obtain ⟨e1, e2⟩ := h5.len
    rw [List.length_cons, List.length_cons, e1, List.flatten_cons, List.length_append]
    exact ⟨rfl, by omega⟩
  | _, [], _ :: _, h => h.elim
  | _, _ :: _, [], h => h.elim
theorem Runs.push : ∀ {o : Nat} {ps : List (Nat × Nat × Nat)} {rs : List (List Keyed)} {r : List Keyed} {z : Nat}, Runs L o ps rs → 1 ≤ r.length → Inc L r → Runs L o (ps ++ [(o + rs.flatten.length, r.length, z)]) (rs ++ [r])
  | o, [], [], r, z, _, h1, h2 => ⟨by simp, rfl, h1, h2, trivial⟩
  | o, p :: ps, q :: rs, r, z, h, h1, h2 => by
    obtain ⟨a1, a2, a3, a4, a5⟩ := h
    have := a5.push (z := z) h1 h2
    refine ⟨a1, a2, a3, a4, ?_⟩
    show Runs L (o + q.length) (ps ++ _) (rs ++ [r])
    rw [List.flatten_cons, List.length_append, ← Nat.add_assoc]
    exact this
  | _, [], _ :: _, _, _, h, _, _ => h.elim
  | _, _ :: _, [], _, _, h, _, _ => h.elim
/-- the last number of each is nobody's business -/
theorem Runs.alike : ∀ {o : Nat} {ps ps' : List (Nat × Nat × Nat)} {rs : List (List Keyed)}, Runs L o ps rs → ps'.map (fun p => (p.1, p.2.1)) = ps.map (fun p => (p.1, p.2.1)) → Runs L o ps' rs
  | _, [], [], [], _, _ => trivial
  | o, p :: ps, p' :: ps', r :: rs, h, e => by
    obtain ⟨a1, a2, a3, a4, a5⟩ := h
    rw [List.map_cons, List.map_cons] at e
    injection e with e1 e2
    injection e1 with e3 e4
    exact ⟨e3.trans a1, e4.trans a2, a3, a4, a5.alike e2⟩
  | _, p :: ps, [], _, _, e => by simp at e
  | _, [], p' :: ps', _, _, e => by simp at e
  | _, [], _, _ :: _, h, _ => h.elim
  | _, _ :: _, _, [], h, _ => h.elim
theorem Runs.cut : ∀ {i o : Nat} {ps : List (Nat × Nat × Nat)} {rs : List (List Keyed)}, Runs L o ps rs → i + 1 < ps.length → ∃ ps1 u v ps2 rs1 ra rb rs2, ps = ps1 ++ u :: v :: ps2 ∧ i = ps1.length ∧ rs = rs1 ++ ra :: rb :: rs2 ∧ u.1 = o + rs1.flatten.length ∧ u.2.1 = ra.length ∧ v.1 = o + rs1.flatten.length + ra.length ∧ v.2.1 = rb.length ∧ 1 ≤ ra.length ∧ 1 ≤ rb.length ∧ Inc L ra ∧ Inc L rb ∧
    ∀ m : List Keyed, m.length = ra.length + rb.length → Inc L m → Runs L o (ps1 ++ (u.1, u.2.1 + v.2.1, u.2.2) :: ps2) (rs1 ++ m :: rs2)
  | 0, o, u :: v :: ps, ra :: rb :: rs, h, _ => by
    obtain ⟨a1, a2, a3, a4, b1, b2, b3, b4, b5⟩ := h
    refine ⟨[], u, v, ps, [], ra, rb, rs, rfl, rfl, rfl, by simpa using a1, a2, by simpa using b1, b2, a3, b3, a4, b4, fun m e hm => ⟨a1, by rw [e, a2, b2], by omega, hm, ?_⟩⟩
    rw [e, ← Nat.add_assoc]
    exact b5
  | i + 1, o, p :: ps, r :: rs, h, hi => by
    obtain ⟨a1, a2, a3, a4, a5⟩ := h
    obtain ⟨ps1, u, v, ps2, rs1, ra, rb, rs2, e1, e2, e3, c1, c2, c3, c4, c5, c6, c7, c8, c9⟩ := a5.cut (i := i) (by rw [List.length_cons] at hi; omega)
    refine ⟨p :: ps1, u, v, ps2, r :: rs1, ra, rb, rs2, by rw [e1]; rfl, by rw [List.length_cons, e2], by rw [e3]; rfl, ?_, c2, ?_, c4, c5, c6, c7, c8, fun m e hm => ⟨a1, a2, a3, a4, c9 m e hm⟩⟩
    · rw [c1, List.flatten_cons, List.length_append, Nat.add_assoc]
    · rw [c3, List.flatten_cons, List.length_append, Nat.add_assoc o]
  | _, _, [], _, _, hi => by simp at hi
  | 0, _, [_], _, _, hi => by simp at hi
  | 0, _, _ :: _ :: _, [], h, _ => h.elim
  | 0, _, _ :: _ :: _, [_], h, _ => h.2.2.2.2.elim
  | _ + 1, _, _ :: _, [], h, _ => h.elim
end
section
variable {prog : Program} {w : World} {A : Around} {E : Value → Shared → Prop} {s : Shared} {κ : SortKind} {U : Keyed → Prop} {L : Keyed → Keyed → Bool} {a₀ : Array Keyed} {R : List Keyed} {st : SortSt}
structure St (L : Keyed → Keyed → Bool) (κ : SortKind) (a₀ : Array Keyed) (R : List Keyed) (st : SortSt) : Prop where
  kind : kindOf st = κ
  failed : failedOf st = none
  perm : (arrOf st).Perm a₀
  ex : ∃ rs, (arrOf st).toList = rs.flatten ++ R ∧ Runs L 0 (pendingOf st).toList rs
theorem St.u (S : St L κ a₀ R st) (u0 : ∀ x ∈ a₀.toList, U x) : ∀ x ∈ (arrOf st).toList, U x := fun x hx => u0 x ((Array.perm_iff_toList_perm.mp S.perm).mem_iff.mp hx)
theorem St.push (S : St L κ a₀ R st) {lo n : Nat} (e : lo + R.length = a₀.size) (h1 : 1 ≤ n) (h2 : n ≤ R.length) (hi : Inc L (R.take n)) : St L κ a₀ (R.drop n) (setPending st ((pendingOf st).push (lo, n, 0))) := by
  obtain ⟨rs, e1, r⟩ := S.ex
  have hl : lo = rs.flatten.length := by
    have := S.perm.size_eq
    rw [← Array.length_toList, e1, List.length_append] at this
    omega
  refine ⟨S.kind, S.failed, S.perm, rs ++ [R.take n], ?_, ?_⟩
  · show (arrOf st).toList = _
    rw [e1]
    simp
  · show Runs L 0 ((pendingOf st).push (lo, n, 0)).toList _
    have hn : (R.take n).length = n := by rw [List.length_take]; omega
    have := r.push (r := R.take n) (z := 0) (by omega) hi
    rw [Nat.zero_add, ← hl, hn] at this
    rw [Array.toList_push]
    exact this
theorem St.mod (S : St L κ a₀ R st) (k pw : Nat) : St L κ a₀ R (setPending st ((pendingOf st).modify k fun x => (x.1, x.2.1, pw))) := by
  obtain ⟨rs, e1, r⟩ := S.ex
  refine ⟨S.kind, S.failed, S.perm, rs, e1, r.alike ?_⟩
  show List.map _ ((pendingOf st).modify k fun x => (x.1, x.2.1, pw)).toList = _
  apply List.ext_getElem?
  intro j
  rw [List.getElem?_map, List.getElem?_map, Array.getElem?_toList, Array.getElem?_toList, Array.getElem?_modify]
  split
  · cases (pendingOf st)[j]? <;> rfl
  · rfl
end
end SR
end L2

namespace L2
open PySem PySem.Spec PySem.W PyProof.Rows
namespace ST
/-! ### list.sort of rows -/
section
variable {prog : Program} {w : World} {A : Around} {E : Value → Shared → Prop} {s : Shared} {L a : Addr} {mm : Str → Option Value} {m : Nat} {rows : List (Addr × List Int)}
end
end ST
end L2

namespace L2
open PySem PySem.Spec PySem.W PyProof.Rows
namespace ST
/-! ### sorted(..) of whatever gives rows -/
section
variable {prog : Program} {w : World} {A : Around} {E : Value → Shared → Prop} {s : Shared} {m : Nat} {S : List (Addr × List Int) → Prop}
end
end ST
end L2

namespace L2
open PySem
namespace ST
/-! ### the walk through a set's table: every slot is met -/
/-! with nothing left of the hash: from place to place by 5 i + 1 -/
end ST
end L2

namespace L2
open PySem
namespace ST
/-! ### places in their order -/
/-! ### one look through the table -/
/-! ### a table in order -/
end ST
end L2

namespace L2
open PySem
namespace ST
/-! ### one thing more -/
end ST
end L2

namespace L2
open PySem
namespace ST
/-! ### a table laid anew, of 32 places -/
section
variable {M : Nat}
/-! what comes of it -/
end
end ST
end L2

namespace L2
open PySem PySem.Spec
namespace ST
/-! ### a set of tuples in the heap -/
section
variable {prog : Program} {w : World} {K : Type} [DecidableEq K] (knd : PySem.KeyKind prog w K)
end
section
variable {prog : Program} {w : World} {K : Type} [DecidableEq K] {knd : PySem.KeyKind prog w K} {A : Around} {E : Value → Shared → Prop} {s : Shared} {a b : Addr} {xs : List (List K × Addr)} {led : Bool} {o : Obj} {ep : Nat} {t : SetTable} {k : List K} {Pl : Prop}
/-! the search -/
end
end ST
end L2

namespace L2
open PySem PySem.Spec
namespace ST
/-! ### a tuple is put into a set -/
section
variable {prog : Program} {w : World} {K : Type} [DecidableEq K] {knd : PySem.KeyKind prog w K} {A : Around} {E : Value → Shared → Prop} {s : Shared} {a b : Addr} {xs : List (List K × Addr)} {led : Bool} {o : Obj} {ep : Nat} {t : SetTable} {k : List K} {Pl : Prop}
end
end ST
end L2

namespace L2
open PySem PySem.Spec
namespace ST
/-! ### all tuples of a list are put into a set -/
section
variable {prog : Program} {w : World} {K : Type} [DecidableEq K] {knd : PySem.KeyKind prog w K} {A : Around} {a I : Addr} {fp wr : List Addr} {St : Nat → Heap → Prop} {led : Bool} {ts : List (List K × Addr)} {R : Result → Shared → Prop} {P : Nat → Value → Prop} {N : Nat} {Pl : Prop}
end
end ST
end L2

namespace L2
open PySem PySem.Spec
namespace ST
/-! ### set(a list of tuples) -/
section
variable {prog : Program} {w : World} {K : Type} [DecidableEq K] {knd : PySem.KeyKind prog w K} {A : Around} {E : Value → Shared → Prop} {s : Shared} {Pl : Prop}
noncomputable abbrev ledBy (w : World) : Bool := !w.params.followText "set-order"
noncomputable abbrev bare (w : World) : Obj := { cls := .type "set", data := .set #[] 0 (.fresh 0 0 (ledBy w)) }
theorem new_bare {a : Value} {R : PySem.Fin → Shared → Prop} (h : R (.done (.ret (.ref s.heap.objs.size))) { s with heap := s.heap.push (bare w) }) :
    wpAny (model prog w) A (Builtin.«set.__new__» ⟨[.type "set", a], []⟩) R E s := by
  have hsub := PySem.sub_set_self
  unfold Builtin.«set.__new__» Builtin.Frozenset.newClass
  wp_walk
  refine wpAny_askSetting (wpAny_pure ?_)
  dsimp only
  wp_walk
  exact h
end
end ST
end L2

namespace L2
open PySem PySem.Spec PySem.W PyProof.Rows
namespace ST
/-! ### the order in which a set gives its members -/
end ST
end L2

namespace L2
open PySem PySem.Spec PySem.W PyProof.Rows
namespace ST
/-! ### a set is walked -/
section
variable {prog : Program} {w : World} {A : Around} {E : Value → Shared → Prop} {s : Shared} {a I : Addr} {o : Obj} {es : Array (Int × Value)} {ep : Nat} {t : SetTable}
end
end ST
end L2

namespace L2
open PySem PySem.Spec PySem.W PyProof.Rows
namespace ST
section
variable {prog : Program} {w : World} {A : Around} {E : Value → Shared → Prop} {s : Shared} {a I : Addr} {o : Obj} {es : Array (Int × Value)} {ep : Nat} {t : SetTable}
end
end ST
end L2

namespace L2
open PySem PySem.Spec PySem.W PyProof.Rows
namespace ST
section
variable {prog : Program} {w : World} {A : Around} {E : Value → Shared → Prop} {s : Shared} {a I : Addr} {o : Obj} {es : Array (Int × Value)} {ep : Nat} {t : SetTable}
end
end ST
end L2

namespace L2
open PySem PySem.Spec PySem.W PyProof.Rows
namespace ST
/-! ### the keys of any dict in turn -/
section
variable {prog : Program} {w : World} {A : Around} {E : Value → Shared → Prop} {s : Shared} {d I : Addr} {o : Obj} {es : Array DictEntry} {ep : Nat}
end
end ST
end L2

namespace L2
open PySem PySem.Spec PySem.W PyProof.Rows
/-! ### sets of rows, sorted rows -/
section
variable {P : Program} {w : World} {H : Hp} {h : Heap} {m : Nat} {rows : List RW}
end
section
variable {X : Cx} {K : PySem.W.Frag}
end
end L2

namespace L2
open PySem PySem.Spec PySem.W PyProof.Rows
/-! ### set(a list of texts), its length -/
/-- the texts of a list, each once -/
noncomputable def distS (l : List Str) : List Str := l.foldl (fun acc x => if x ∈ acc then acc else acc ++ [x]) []
theorem dist_snoc (l : List Str) (x : Str) : distS (l ++ [x]) = if x ∈ distS l then distS l else distS l ++ [x] := by
  unfold distS
  rw [List.foldl_append]; rfl
theorem snoc_indS {α : Type} {p : List α → Prop} (h0 : p []) (hs : ∀ l x, p l → p (l ++ [x])) (l : List α) : p l := by
  have : ∀ n (l : List α), l.length = n → p l := by
    intro n
    induction n with
    | zero => intro l h; rw [List.length_eq_zero_iff.mp h]; exact h0
    | succ n ih =>
      intro l h
      have hne : l ≠ [] := fun z => by rw [z] at h; cases h
      rw [← List.dropLast_concat_getLast hne]
      exact hs _ _ (ih _ (by rw [List.length_dropLast, h]; rfl))
  exact this _ l rfl
theorem dist_mem (l : List Str) : ∀ k, k ∈ distS l ↔ k ∈ l := by
  induction l using snoc_indS with
  | h0 => intro k; exact Iff.rfl
  | hs l x ih =>
    intro k
    rw [dist_snoc, List.mem_append, List.mem_singleton, ← ih k]
    split
    · rename_i hx
      exact ⟨.inl, fun h => h.elim id fun e => e ▸ hx⟩
    · rw [List.mem_append, List.mem_singleton]
theorem dist_len (l : List Str) : (distS l).length ≤ l.length ∧ ((distS l).length = l.length ↔ l.Nodup) := by
  induction l using snoc_indS with
  | h0 => exact ⟨Nat.le_refl _, fun _ => List.nodup_nil, fun _ => rfl⟩
  | hs l x ih =>
    obtain ⟨h1, h2⟩ := ih
    have nd : (l ++ [x]).Nodup ↔ l.Nodup ∧ x ∉ l := by
      rw [List.nodup_append]
      constructor
      · rintro ⟨a, _, b⟩
        exact ⟨a, fun hx => b x hx x (List.mem_singleton.mpr rfl) rfl⟩
      · rintro ⟨a, b⟩
        refine ⟨a, List.nodup_cons.mpr ⟨List.not_mem_nil, List.nodup_nil⟩, fun c hc d hd e => b ?_⟩
        rw [← List.mem_singleton.mp hd, ← e]
        exact hc
    rw [dist_snoc, nd, List.length_append, ← dist_mem l x, ← h2]
    split
    · rename_i hx
      refine ⟨Nat.le_succ_of_le h1, fun e => ?_, fun e => absurd hx e.2⟩
      simp only [List.length_cons, List.length_nil] at e
      omega
    · rename_i hx
      rw [List.length_append]
      simp only [List.length_cons, List.length_nil]
      exact ⟨by omega, fun e => ⟨by omega, hx⟩, fun e => by omega⟩
section
variable {prog : Program} {w : World} {A : Around} {a I : Addr} {fp wr : List Addr} {St : Nat → Heap → Prop} {ws : List Str} {R : Result → Shared → Prop} {P : Nat → Value → Prop} {N : Nat}
theorem setof_other {h h' : Heap} {S : Str → Bool} {n : Nat} (x : h.SetOf (strKind prog w) a S n) (e : ∀ o, h.get? a = some o → h'.get? a = some o) : h'.SetOf (strKind prog w) a S n := by
  obtain ⟨o, es, ep, t, ho, rest⟩ := x
  exact ⟨o, es, ep, t, e _ ho, rest⟩
theorem setof_eq {h : Heap} {S S' : Str → Bool} {n n' : Nat} (x : h.SetOf (strKind prog w) a S n) (e : ∀ k, S k = S' k) (en : n = n') : h.SetOf (strKind prog w) a S' n' := by
  have : S = S' := funext e
  rw [← this, ← en]
  exact x
theorem loopS_ok (W : Walks prog w A.in1 I fp wr N P St) (hN : N = ws.length) (hP : ∀ i v, P i v → ∃ x t, ws[i]? = some x ∧ v = .str x t) (haf : a ∉ fp) (l18 : ws.length ≤ 306) :
    ∀ (n i : Nat) (s : Shared), n = ws.length - i → i ≤ ws.length → St i s.heap → s.heap.SetOf (strKind prog w) a (fun k => decide (k ∈ distS (ws.take i))) (distS (ws.take i)).length →
      (∀ h' tk, (∀ b o, b ≠ a → b ∉ wr → s.heap.get? b = some o → h'.get? b = some o) → h'.SetOf (strKind prog w) a (fun k => decide (k ∈ distS ws)) (distS ws).length → R (.ok (.ret .none)) { s with heap := h', toks := tk }) →
      codeAny (model prog w) A (.builtin "set.update.loop" ⟨[.ref a, .ref I], []⟩) R s := by
  have haw : a ∉ wr := fun h => haf (W.sub _ h)
  subst hN
  intro n
  induction n with
  | zero =>
    intro i s hn hi st S q
    have e : i = ws.length := by omega
    subst e
    refine codeAny_builtin PyProof.Rows.F.entry_set_update_loop ?_
    rw [Around.under_plainId PyProof.Rows.F.plain_set_update_loop _]
    unfold Builtin.«set.update.loop»
    dsimp only
    refine wpAny_bind (W.done s _ _ st fun h' tk keep => ?_)
    dsimp only
    rw [List.take_length] at S
    exact wpAny_pure (q h' tk (fun b o _ nb e => keep b o nb e) (setof_other S fun o e => keep a o haw e))
  | succ n ih =>
    intro i s hn hi st S q
    have hlt : i < ws.length := by omega
    refine codeAny_builtin PyProof.Rows.F.entry_set_update_loop ?_
    rw [Around.under_plainId PyProof.Rows.F.plain_set_update_loop _]
    unfold Builtin.«set.update.loop»
    dsimp only
    refine wpAny_bind (W.item i s _ _ hlt st fun v h' tk hv' st' keep => ?_)
    obtain ⟨x, t, hx, rfl⟩ := hP _ _ hv'
    have S' := setof_other S fun o e => keep a o haw e
    dsimp only
    refine wpAny_bind (wpAny_holding ?_)
    unfold setAdd
    have isx : (strKind prog w).is x (.str x t) = true := by show Value.isStrOf x (.str x t) = true; simp [Value.isStrOf]
    refine wpAny_holding (wpAny_bind ((strKind prog w).pyHash (k := x) isx ?_))
    have et : ws.take (i + 1) = ws.take i ++ [x] := by rw [List.take_succ, hx]; rfl
    have lt : (distS (ws.take i)).length + 1 < scanBound := by
      have h1 := (dist_len (ws.take i)).1
      have h2 := List.length_take_le i ws
      unfold scanBound
      omega
    refine wpAny_setAddHashed_of (knd := strKind prog w) (s := { s with heap := h', toks := tk + 1 }) isx rfl S' lt fun h2 sb S2 => ?_
    refine wpAny_pure ⟨plainId_quiet PyProof.Rows.F.plain_set_update_loop _, ?_⟩
    refine ih (i + 1) _ (by omega) hlt (W.frame (i + 1) h' h2 st' fun c hc o e => by rw [sb.2 c (fun z => haf (z ▸ hc))]; exact e) (setof_eq S2 (fun k => ?_) ?_) fun h3 tk3 keep3 T3 => q h3 tk3 (fun c o nc nw e => keep3 c o nc nw (by show h2.get? c = some o; rw [sb.2 c nc]; exact keep c o nw e)) T3
    · rw [et, dist_snoc]
      split
      · rename_i hd
        by_cases ek : k = x
        · subst ek; rw [decide_eq_true hd]; rfl
        · rw [decide_eq_false ek, Bool.or_false]
      · rw [Bool.eq_iff_iff, Bool.or_eq_true, decide_eq_true_iff, decide_eq_true_iff, decide_eq_true_iff, List.mem_append, List.mem_singleton]
    · rw [et, dist_snoc]
      by_cases hd : x ∈ distS (ws.take i)
      · rw [if_pos hd, if_pos (decide_eq_true hd)]
      · rw [if_neg hd, if_neg (by rw [decide_eq_false hd]; exact Bool.false_ne_true), List.length_append]; rfl
end
section
variable {prog : Program} {w : World} {A : Around} {E : Value → Shared → Prop} {s : Shared}
theorem calledS {l : Addr} {ws : List Str} {vs : List Value} {Q : Value → Shared → Prop} (hh : A.handled = none) (hl : s.heap.IsList l vs.toArray) (hv : Vals (ws.map V.str) vs) (l18 : ws.length ≤ 306)
    (h : ∀ h' tk, h'.SetOf (strKind prog w) s.heap.objs.size (fun k => decide (k ∈ distS ws)) (distS ws).length → (∀ b o, b < s.heap.objs.size → s.heap.get? b = some o → h'.get? b = some o) → Q (.ref s.heap.objs.size) { s with heap := h', toks := tk }) :
    wpAny (model prog w) A (call (.type "set") [.ref l]) Q E s := by
  refine wpAny_call ?_
  refine codeAny_of_tree ?_
  wp_walk
  have C := PySem.F.called_set
  obtain ⟨c, tl, hm⟩ := C.mro
  have n1 := C.notType
  have n2 := C.canCreate
  have n3 := C.made
  have n4 := C.sub
  have chk := PySem.F.typeCall_set_1 (.ref l)
  constructor
  · exact Code.quiet_builtin _ (by decide +kernel)
  refine codeAny_builtin PySem.F.entry_type_call ?_
  rw [Around.under_plain (weight_type_call_type "set" [.ref l] []) rfl]
  unfold Builtin.«type.__call__»
  wp_walk
  refine codeAny_call_builtin PySem.F.plain_set_new PySem.F.entry_set_new (wpAny_of_eq (PySem.F.newCall_set_1 (.ref l)) (ST.new_bare ?_))
  have hS : (s.heap.push (ST.bare w)).get? s.heap.objs.size = some (ST.bare w) := Heap.get?_push_size _ rfl
  have ty : Shared.TypeIs { s with heap := s.heap.push (ST.bare w) } (.ref s.heap.objs.size) "set" := ⟨_, hS, rfl⟩
  have li := C.init.lookup
  have bi := C.init.bind (.ref s.heap.objs.size)
  wp_walk
  refine codeAny_call_builtin C.init.plain PySem.F.entry_set_init (check_set_init_1 ty ?_)
  have hl1 : (s.heap.push (ST.bare w)).IsList l vs.toArray := hl.push _
  have lty : Shared.TypeIs { s with heap := s.heap.push (ST.bare w) } (.ref l) "list" := by
    obtain ⟨ol, a1, a2, _⟩ := hl1
    exact ⟨ol, a1, a2⟩
  have s1 := PySem.F.sub_list_set
  have s2 := PySem.F.sub_list_frozenset
  unfold Builtin.«set.__init__» noKeywords Builtin.Frozenset.updateFrom
  wp_walk using wpAny_pyIter_list hl1
  have lt : l < s.heap.objs.size := by obtain ⟨ol, a1, _⟩ := hl; exact Heap.lt_size a1
  have sz : (s.heap.push (ST.bare w)).objs.size = s.heap.objs.size + 1 := Heap.size_push ..
  have lv : vs.length = ws.length := by rw [← hv.length, List.length_map]
  refine loopS_ok (ws := ws) (a := s.heap.objs.size) (Walks.list (A := A.in1.in1.in1) hh _ l (Nat.ne_of_lt (by show l < (s.heap.push (ST.bare w)).objs.size; rw [sz]; exact Nat.lt_succ_of_lt lt)) vs.toArray) (by rw [List.size_toArray]; exact lv) (fun i v e => ?_) ?_ l18 ws.length 0 _ (by omega) (Nat.zero_le _) ⟨⟨_, Heap.get?_push_size _ rfl, rfl, rfl⟩, hl1.push _⟩ ?_ fun h' tk keep T => ?_
  · rw [List.getElem?_toArray] at e
    have hi : i < ws.length := by rw [← lv]; exact (List.getElem?_eq_some_iff.mp e).1
    obtain ⟨u, hu, ru⟩ := hv.get (i := i) (x := V.str ws[i]) (by rw [List.getElem?_map, List.getElem?_eq_getElem hi]; rfl)
    rw [hu] at e
    obtain rfl := Option.some.inj e
    obtain ⟨t, rfl⟩ := ru
    exact ⟨_, t, List.getElem?_eq_getElem hi, rfl⟩
  · show s.heap.objs.size ∉ [(s.heap.push (ST.bare w)).objs.size, l]
    rw [sz]
    intro z
    rcases List.mem_cons.mp z with z | z
    · exact absurd z (Nat.ne_of_lt (Nat.lt_succ_self _))
    · exact absurd (List.mem_singleton.mp z) (Nat.ne_of_gt lt)
  · exact (setObjOf_fresh (knd := strKind prog w) (ST.ledBy w)).setOf (Heap.get?_push_of_some _ hS) (by unfold scanBound; omega)
  · dsimp only
    wp_walk
    refine h h' tk T fun b o hb e => keep b o (Nat.ne_of_lt hb) ?_ (Heap.get?_push_of_some _ (Heap.get?_push_of_some _ e))
    show b ∉ [(s.heap.push (ST.bare w)).objs.size]
    rw [sz]
    intro z
    exact absurd (List.mem_singleton.mp z) (Nat.ne_of_lt (Nat.lt_succ_of_lt hb))
end
/-- a set of so many texts -/
noncomputable def ssO (P : Program) (w : World) (a : Addr) (n : Nat) : HO := .ext fun h => ∃ S, h.SetOf (strKind P w) a S n
section
variable {X : Cx} {K : PySem.W.Frag}
theorem call_setS (hK : X.K = K) (hc : X.calm = true) : CallR X (.type "set") (fun xs H Q => ∃ (p : Addr) (ws : List Str), xs = [.ref p] ∧ SqL K H p (ws.map V.str) ∧ ws.length ≤ 300 ∧ ∀ l : Addr, H l = none → Q (.ref l) (upd H l (ssO X.prog X.w l (distS ws).length))) := by
  subst hK
  intro pins s σ H xs us Q I r h
  obtain ⟨p, ws, rfl, hq, l18, q⟩ := h
  obtain ⟨u, rfl, rx⟩ := vals1 r
  cases rx
  obtain ⟨its, rv, pl, hz⟩ := I.list hq
  refine calledS (ws := ws) (I.ok.hd hc) pl.isList rv (by omega) fun h' tk T keep => ?_
  have ob : ObjOk X.prog X.w H h' s.heap.objs.size (ssO X.prog X.w s.heap.objs.size (distS ws).length) := by
    refine ⟨⟨_, T⟩, ?_, fun _ _ ⟨S, x⟩ k => ⟨S, setof_other x fun o e => k o e⟩⟩
    obtain ⟨o, es, ep, t, ho, _⟩ := T
    exact ⟨o, ho⟩
  exact ⟨.ref s.heap.objs.size, _, I.laid (t' := tk) (o := ssO X.prog X.w s.heap.objs.size (distS ws).length) (fun b o e => keep b o (Heap.lt_size e) e) (Nat.le_refl _) ob, rfl, q _ I.fresh⟩
theorem call_lenSS : CallR X (.builtin "len") (fun xs H Q => ∃ (p : Addr) (n : Nat), xs = [.ref p] ∧ H p = some (ssO X.prog X.w p n) ∧ n ≤ 1000 ∧ Q (vN n) H) := by
  intro pins s σ H xs us Q I r h
  obtain ⟨p, n, rfl, hq, hn, q⟩ := h
  obtain ⟨u, rfl, rx⟩ := vals1 r
  cases rx
  obtain ⟨⟨S, o, es, ep, t, ho, hex, hd, _, _, _, hf, rfl⟩, _⟩ := (show ObjOk X.prog X.w H s.heap p (ssO X.prog X.w p n) from I.hok p _ hq)
  exact call_len_set ho hex hd hf (by omega) ⟨vN es.size, H, I.tok _, ⟨_, rfl⟩, q⟩
end
end L2

namespace L2
open PySem PySem.Spec PyProof.Rows
/-! ### the signs of a text, one after the other -/
noncomputable def Itc (z : Str) : It := ⟨fun i _ => i < z.cps.size, fun i H x H' => H' = H ∧ ∃ c, z.cps.toList[i]? = some c ∧ x = .str ⟨#[c]⟩, fun i _ => z.cps.size ≤ i⟩
theorem turn_str {P : Program} {w : World} {K : PySem.W.Frag} {tg : Expr} (it : Addr) (z : Str) (t : Tok) : Turn P w K tg (Itc z) [it] it (fun i h => h.IsStrIter it "str_ascii_iterator" z t i) where
  mem := by simp
  obj := fun i h st b hb => by
    have e : b = it := by simpa using hb
    subst e
    obtain ⟨o, e, c, d⟩ := st
    exact ⟨o, e, fun v z => by rw [d] at z; cases z⟩
  keep := fun i h h' st k => by
    obtain ⟨o, e, r⟩ := st
    exact ⟨o, k it (by simp) o e, r⟩
  item := by
    intro X hP hw hK hc i pins s σ H E I hf st hg
    subst hP hw hK
    obtain ⟨f0, f1, f2, f3, f4, f5⟩ := hf it (by simp)
    have W := Walks.strAscii (prog := X.prog) (w := X.w) (I.ok.hd hc) it z t
    refine W.item i s _ _ hg st fun v h' tk hv st' kk => ?_
    obtain ⟨c, u, hcu, rfl⟩ := hv
    have I1 : Inv X pins σ H { s with heap := h', toks := tk } := I.turned (fun b o hb e => kk b o (by simpa using hb) e) f0 f1 f3 f4 f5
    obtain ⟨o, e, cl, d⟩ := id st'
    exact ⟨_, rfl, go_of (s := { s with heap := h', toks := tk }) e cl d (by decide) ⟨.str ⟨#[c]⟩, H, I1, ⟨u, rfl⟩, ⟨rfl, c, by rw [Array.getElem?_toList]; exact hcu, rfl⟩, st', fun b hb => (hf b hb).1⟩⟩
  done := by
    intro X hP hw hK hc i pins s σ H E I hf st hg
    subst hP hw hK
    obtain ⟨f0, f1, f2, f3, f4, f5⟩ := hf it (by simp)
    have hi : z.cps.size ≤ i := hg
    exact wpAny_pyNext_ascii_end (I.ok.hd hc) st (by simp; omega) fun h' eb => ⟨rfl, I.turned (t' := s.toks) (fun b o hb e => eb b o hb e) f0 f1 f3 f4 f5⟩
  self := fun _ _ _ _ _ st h => wpAny_pyIter_striter_ascii st h
section
variable {X : Cx} {tg : Expr}
noncomputable def iStr (tl : TE) : TI := fun σ H R => tl σ H fun x H1 => ∃ z : Str, x = .str z ∧ (∀ c ∈ z.cps.toList, c < 128) ∧ R (Itc z) H1
theorem pi_str {l : Expr} {tl : TE} (hl : PE X l tl) : PI X tg l (iStr tl) := by
  intro pins s σ H R I h
  refine thn (hl pins s σ H _ I h) fun v s1 ⟨x, H1, I1, r1, q1⟩ => ?_
  obtain ⟨z, e, ha, q⟩ := q1
  subst e
  obtain ⟨t, rfl⟩ := r1
  have hall : z.cps.all (· < 128) = true := by
    rw [← Array.all_toList, List.all_eq_true]
    exact fun c hc => decide_eq_true (ha c hc)
  refine wpAny_pyIter_ascii hall ?_
  refine ⟨s1.heap.objs.size, [s1.heap.objs.size], _, _, H1, rfl, I1.kept (t' := s1.toks) fun b o e => Heap.get?_push_of_some _ e, turn_str _ z t, ⟨_, Heap.get?_push_size _ rfl, rfl, rfl⟩, fun b hb => ?_, q⟩
  have e : b = s1.heap.objs.size := by simpa using hb
  subst e
  exact I1.fpOk (Nat.le_refl _) (I1.hok.fresh (Nat.le_refl _))
theorem lc_str {z : Str} {n : Nat} {g : TG} {tc : TT} {te : TE} {σ : St} {H : Hp} {F : List V → Hp → Prop} (Pv : Nat → List V → Hp → Prop) (hn : z.length ≤ 1000000) (h0 : Pv 0 [] H)
    (hl : ∀ i acc H, i ≤ z.length → Pv i acc H → acc.length ≤ i)
    (hs : ∀ i c acc H, z.cps.toList[i]? = some c → Pv i acc H → g (.str ⟨#[c]⟩) (List.replicate n none ++ σ) H fun σ2 H2 => σ2.drop n = σ ∧ tc σ2 H2 fun c H3 => if c = true then te σ2 H3 fun y H4 => Pv (i + 1) (acc ++ [y]) H4 else Pv (i + 1) acc H3)
    (hd : ∀ acc H, Pv z.length acc H → F acc H) : LCW n (Itc z) g tc te σ H F := by
  have sz : (1000000 : Nat) < sizeLine := by rw [sizeLine_eq]; decide
  refine ⟨fun i m acc H => m = z.length - i ∧ i ≤ z.length ∧ Pv i acc H, ⟨z.length, by simp, Nat.zero_le _, h0⟩, ?_⟩
  rintro i m acc H ⟨rfl, hi, p⟩
  have q := hl i acc H hi p
  by_cases hlt : i < z.length
  · refine .inr ⟨hlt, by omega, Pv (i + 1), fun acc' H' p' => ⟨z.length - (i + 1), by omega, rfl, hlt, p'⟩, fun x H' y => ?_⟩
    obtain ⟨rfl, c, hc, rfl⟩ := y
    exact hs i c acc _ hc p
  · have e : i = z.length := by omega
    subst e
    exact .inl ⟨Nat.le_refl _, by omega, hd acc H p⟩
end
end L2

namespace L2
open PySem PySem.Spec PyProof.Rows
/-! ### tables as texts (k80, k81) -/
noncomputable def spaceS : Str := ⟨#[32]⟩
noncomputable def nlS : Str := ⟨#[10]⟩
noncomputable def columnsS : Str := "columns"
noncomputable def settleS : Str := "settle"
noncomputable def dealS : Str := "deal"
noncomputable def isRW (z : Str) : Bool := decide (z = settleS) || decide (z = dealS)
theorem rw_word (b : Bool) : isRW (wordS b) = true := by cases b <;> decide +kernel
noncomputable def NW (nms : List Str) : Prop := ∀ n ∈ nms, isRW n = false
noncomputable def lowB (c : Nat) : Bool := decide (97 ≤ c) && decide (c ≤ 122)
noncomputable def nameB (z : Str) : Bool := decide (1 ≤ z.length) && decide (z.length ≤ 8) && !isRW z && z.cps.toList.all lowB
noncomputable def namesB (ws : List Str) : Bool := !ws.isEmpty && decide (ws.length ≤ 7) && decide ws.Nodup && ws.all nameB
theorem in_letters : ∀ c, c < 128 → (!(Builtin.Str.occurrences letS ⟨#[c]⟩ 0 letS.length 1).isEmpty) = lowB c := by decide +kernel
noncomputable def LowS (z : Str) : Prop := ∀ c ∈ z.cps.toList, 97 ≤ c ∧ c ≤ 122
theorem low_word (b : Bool) : LowS (wordS b) ∧ (wordS b).length ≤ 8 := by cases b <;> exact ⟨by unfold LowS; decide +kernel, by decide +kernel⟩
theorem low_columns : LowS columnsS ∧ columnsS.length ≤ 8 := ⟨by unfold LowS; decide +kernel, by decide +kernel⟩
noncomputable def ruleW (nms : List Str) (r : RD) : List Str := namN nms r.2.1 ++ wordS r.1 :: namN nms r.2.2
noncomputable def lineS (nms : List Str) (r : RD) : Str := Str.join spaceS (ruleW nms r)
noncomputable def headS (nms : List Str) : Str := Str.join spaceS (columnsS :: nms)
noncomputable def linesS (nms : List Str) (rs : List RD) : List Str := headS nms :: rs.map (lineS nms)
noncomputable def textS (nms : List Str) (rs : List RD) : Str := Str.join nlS (linesS nms rs)
noncomputable def InR (nms : List Str) (r : RD) : Prop := r.2.1 < 2 ^ nms.length ∧ r.2.2 < 2 ^ nms.length
theorem join_chars {sc : Nat} {p : Nat → Prop} (h0 : p sc) : ∀ {ps : List Str}, (∀ x ∈ ps, ∀ c ∈ x.cps.toList, p c) → ∀ c ∈ (Str.join ⟨#[sc]⟩ ps).cps.toList, p c
  | [], _, c, hc => by cases hc
  | [x], h, c, hc => h x (List.mem_singleton.mpr rfl) c hc
  | x :: q :: r, h, c, hc => by
    have e : Str.join ⟨#[sc]⟩ (x :: q :: r) = x ++ ⟨#[sc]⟩ ++ Str.join ⟨#[sc]⟩ (q :: r) := rfl
    rw [e, Str.cps_append, Str.cps_append, Array.toList_append, Array.toList_append] at hc
    rcases List.mem_append.mp hc with hc | hc
    · rcases List.mem_append.mp hc with hc | hc
      · exact h x (List.mem_cons_self ..) c hc
      · rw [List.mem_singleton.mp hc]; exact h0
    · exact join_chars h0 (fun y hy => h y (List.mem_cons_of_mem _ hy)) c hc
theorem join_le {sep : Str} {ys : List Str} {d : Nat} (h : ∀ y ∈ ys, y.length ≤ d) (hs : sep.length = 1) : (Str.join sep ys).length ≤ ys.length * d + ys.length := by
  have h2 := sum_le h
  have h3 := StrLaws.join_length_le sep ys
  rw [hs] at h3
  omega
theorem join_okL {sep : Str} {ys : List Str} {d : Nat} (h : ∀ y ∈ ys, y.length ≤ d) (hs : sep.length = 1) (hb : ys.length * d + ys.length ≤ 100000) : JoinOk sep ys = true := by
  have h2 := sum_le h
  unfold JoinOk
  rw [Bool.not_eq_true']
  show decide (_ > sizeLine) = false
  rw [StrLaws.joinTotal, decide_eq_false]
  have := sizeLine_eq
  rw [hs]
  omega
section
variable {nms : List Str} {rs : List RD} {r : RD}
theorem rule_low (N : NM nms) (h : InR nms r) : ∀ w ∈ ruleW nms r, LowS w ∧ w.length ≤ 8 := fun w hw => by
  rcases List.mem_append.mp hw with hw | hw
  · exact ⟨low_names N h.1 w hw, N.len w (in_mem N h.1 hw)⟩
  · rcases List.mem_cons.mp hw with rfl | hw
    · exact low_word _
    · exact ⟨low_names N h.2 w hw, N.len w (in_mem N h.2 hw)⟩
theorem rule_len (N : NM nms) (h : InR nms r) : (ruleW nms r).length ≤ 15 := by
  have h1 := nam_len N h.1
  have h2 := nam_len N h.2
  unfold ruleW
  rw [List.length_append, List.length_cons]
  omega
theorem head_low (N : NM nms) : ∀ w ∈ columnsS :: nms, LowS w ∧ w.length ≤ 8 := fun w hw => by
  rcases List.mem_cons.mp hw with rfl | hw
  · exact low_columns
  · exact ⟨N.low w hw, N.len w hw⟩
theorem free32 {ws : List Str} (h : ∀ w ∈ ws, LowS w) : ∀ w ∈ ws, 32 ∉ w.cps.toList := fun w hw z => by
  have := h w hw 32 z
  omega
theorem split_line (N : NM nms) (h : InR nms r) : Txt.split (lineS nms r) spaceS = ruleW nms r :=
  split_join (c := 32) (by decide) (fun z => by have := congrArg List.length z; unfold ruleW at this; rw [List.length_append, List.length_cons, List.length_nil] at this; omega) (free32 fun w hw => (rule_low N h w hw).1)
theorem split_head (N : NM nms) : Txt.split (headS nms) spaceS = columnsS :: nms :=
  split_join (c := 32) (by decide) (List.cons_ne_nil _ _) (free32 fun w hw => (head_low N w hw).1)
noncomputable def okT (c : Nat) : Prop := c = 32 ∨ 97 ≤ c ∧ c ≤ 122
theorem line_ok (N : NM nms) (h : InR nms r) : (∀ c ∈ (lineS nms r).cps.toList, okT c) ∧ (lineS nms r).length ≤ 150 := by
  refine ⟨join_chars (sc := 32) (.inl rfl) fun w hw c hc => .inr ((rule_low N h w hw).1 c hc), ?_⟩
  have h1 := rule_len N h
  have h2 := join_le (sep := spaceS) (fun w hw => (rule_low N h w hw).2) rfl
  have e : lineS nms r = Str.join spaceS (ruleW nms r) := rfl
  rw [← e] at h2
  omega
theorem head_ok (N : NM nms) : (∀ c ∈ (headS nms).cps.toList, okT c) ∧ (headS nms).length ≤ 150 := by
  refine ⟨join_chars (sc := 32) (.inl rfl) fun w hw c hc => .inr ((head_low N w hw).1 c hc), ?_⟩
  have h1 := N.l7
  have h2 := join_le (sep := spaceS) (fun w hw => (head_low N w hw).2) rfl
  have e : headS nms = Str.join spaceS (columnsS :: nms) := rfl
  rw [← e, List.length_cons] at h2
  omega
theorem lines_ok (N : NM nms) (h : ∀ r ∈ rs, InR nms r) : ∀ w ∈ linesS nms rs, (∀ c ∈ w.cps.toList, okT c) ∧ w.length ≤ 150 := fun w hw => by
  rcases List.mem_cons.mp hw with rfl | hw
  · exact head_ok N
  · obtain ⟨r, hr, rfl⟩ := List.mem_map.mp hw
    exact line_ok N (h r hr)
theorem split_text (N : NM nms) (h : ∀ r ∈ rs, InR nms r) : Txt.split (textS nms rs) nlS = linesS nms rs :=
  split_join (c := 10) (by decide) (List.cons_ne_nil _ _) fun w hw z => by
    rcases (lines_ok N h w hw).1 10 z with h | h <;> omega
theorem lines_len (nms : List Str) (rs : List RD) : (linesS nms rs).length = rs.length + 1 := by unfold linesS; rw [List.length_cons, List.length_map]
theorem text_len (N : NM nms) (h : ∀ r ∈ rs, InR nms r) (l : rs.length ≤ 12) : (textS nms rs).length ≤ 2000 := by
  have h2 := join_le (sep := nlS) (fun w hw => (lines_ok N h w hw).2) rfl
  have e : textS nms rs = Str.join nlS (linesS nms rs) := rfl
  rw [← e, lines_len] at h2
  omega
theorem nm_names (N : NM nms) (W : NW nms) : namesB nms = true := by
  unfold namesB
  have h1 := N.l1
  simp only [Bool.and_eq_true, Bool.not_eq_true', decide_eq_true_iff, List.all_eq_true, List.isEmpty_eq_false_iff]
  refine ⟨⟨⟨fun z => by rw [z] at h1; exact absurd h1 (by decide), N.l7⟩, N.nd⟩, fun w hw => ?_⟩
  unfold nameB lowB
  simp only [Bool.and_eq_true, Bool.not_eq_true', decide_eq_true_iff, List.all_eq_true]
  refine ⟨⟨⟨?_, N.len w hw⟩, W w hw⟩, N.low w hw⟩
  have ne := N.ne w hw
  have : w.cps.toList.length ≠ 0 := fun z => ne (List.length_eq_zero_iff.mp z)
  rw [Array.length_toList] at this
  show 1 ≤ w.cps.size
  omega
end
theorem oddN_nw : ∀ r, r < 26 → ∀ n, n < 8 → (oddN r n).all (fun z => !isRW z) = true := by decide +kernel
theorem odd_nw {r n : Nat} (h : r < 26) (hn : n ≤ 7) : NW (oddN r n) := fun w hw => by
  have := List.all_eq_true.mp (oddN_nw r h n (by omega)) w hw
  simpa using this
theorem ev_nw {c size at_ n : Nat} (h4 : size ≠ 4) (h6 : size ≠ 6) : NW (evN c size at_ n) := fun w hw => by
  obtain ⟨k, _, rfl⟩ := List.mem_map.mp hw
  have l : (evS c size at_ k).length = size := by show (evL c size at_ k).toArray.size = size; rw [List.size_toArray, ev_len]
  unfold isRW
  rw [Bool.or_eq_false_iff, decide_eq_false_iff_not, decide_eq_false_iff_not]
  refine ⟨fun z => h6 ?_, fun z => h4 ?_⟩
  · rw [← l, z]; rfl
  · rw [← l, z]; rfl
theorem sizes6b : ∀ n, n < 6 → ∃ z : Nat, ([vN 1, vN 2, vN 3, vN 5, vN 7, vN 8] : List V)[n]? = some (vN z) ∧ 1 ≤ z ∧ z ≤ 8 ∧ z ≠ 4 ∧ z ≠ 6
  | 0, _ => ⟨1, rfl, by decide, by decide, by decide, by decide⟩
  | 1, _ => ⟨2, rfl, by decide, by decide, by decide, by decide⟩
  | 2, _ => ⟨3, rfl, by decide, by decide, by decide, by decide⟩
  | 3, _ => ⟨5, rfl, by decide, by decide, by decide, by decide⟩
  | 4, _ => ⟨7, rfl, by decide, by decide, by decide, by decide⟩
  | 5, _ => ⟨8, rfl, by decide, by decide, by decide, by decide⟩
noncomputable def spNames80 : Sp := fun vs H Q _ => ∃ c n : Nat, vs = [vN c, vN n] ∧ 1 ≤ n ∧ n ≤ 7 ∧ ∀ (nms : List Str) (l : Addr) (H' : Hp), NM nms → NW nms → nms.length = n → Same H H' → H l = none → H' l = some (.lst (nms.map V.str)) → Q (.ref l) H'
theorem small100k {n : Nat} (h : n ≤ 100000) : n < sizeLine := Nat.lt_of_le_of_lt h (by decide)
section
variable {X : Cx}
theorem mt_splitL : MtR X "str.split" (fun x xs H Q => ∃ z y : Str, x = .str z ∧ xs = [.str y] ∧ (y.length == 0) = false ∧ z.length ≤ 100000 ∧ (Txt.split z y).length ≤ 1000 ∧ ∀ D, H D = none → Q (.ref D) (upd H D (.lst ((Txt.split z y).map V.str)))) := by
  intro pins s σ H x xs v us Q I rx rv h
  obtain ⟨z, y, rfl, rfl, hy, hz, hn, q⟩ := h
  obtain ⟨tk, rfl⟩ := rx
  obtain ⟨u, rfl, ru⟩ := rv.one
  obtain ⟨tk2, rfl⟩ := ru
  have fin : ∀ (l : List (Str × Tok)) (k : Nat), l.map (·.1) = Txt.split z y → EP X pins σ Q (.ref s.heap.objs.size) { s with toks := k, heap := s.heap.push { cls := .type "list", data := .seq (strValues l).toArray } } := fun l k e => by
    refine ⟨.ref s.heap.objs.size, _, I.laid (t' := k) (o := .lst ((Txt.split z y).map V.str)) (fun b ob q => Heap.get?_push_of_some _ q) (Nat.le_refl _) ?_, rfl, q _ (I.hok.fresh (Nat.le_refl _))⟩
    refine ⟨by rw [List.length_map]; exact Nat.le_of_lt (small1000 hn), strValues l, 0, by rw [← e]; exact vals_strs l, Heap.get?_push_size _ rfl⟩
  cases h1 : (decide (z.length < y.length) || decide (Builtin.Str.strKind z < Builtin.Str.strKind y))
  · cases hf : (Builtin.Str.occurrences z y 0 z.length (z.length + 1)).isEmpty
    · have es : Txt.split z y = Builtin.Str.partsBetween z (Builtin.Str.occurrences z y 0 z.length (z.length + 1)) y.length := (if_neg (ne_true_of_eq_false h1)).trans (if_neg (ne_true_of_eq_false hf))
      refine call_meets F.slot_str_split (typeIs_str _ _ _) F.entry_str_split (F.args_str_split_2 _ _) (meets_str_split_sep z y tk tk2 h1 hy hf (Nat.le_of_lt (small100k hz)) (by rw [← es]; exact Nat.le_of_lt (small1000 hn))) ?_
      show wants _ _ _ { s with toks := _, heap := s.heap.push { cls := .type "list", data := .seq (strsFrom s.toks (Builtin.Str.partsBetween z (Builtin.Str.occurrences z y 0 z.length (z.length + 1)) y.length)).toArray } }
      rw [strsFrom_eq]
      exact fin (numbered s.toks _) _ ((numbered_texts _ _).trans es.symm)
    · have es : Txt.split z y = [z] := (if_neg (ne_true_of_eq_false h1)).trans (if_pos hf)
      exact call_meets F.slot_str_split (typeIs_str _ _ _) F.entry_str_split (F.args_str_split_2 _ _) (meets_str_split_not_found z y tk tk2 h1 hy hf) (fin [(z, tk)] s.toks es.symm)
  · have es : Txt.split z y = [z] := if_pos h1
    exact call_meets F.slot_str_split (typeIs_str _ _ _) F.entry_str_split (F.args_str_split_2 _ _) (meets_str_split_cannot_occur z y tk tk2 h1) (fin [(z, tk)] s.toks es.symm)
end
end L2

namespace L2
open PySem PySem.Spec PyProof.Rows
noncomputable def RWT (K : PySem.W.Frag) (a : Addr) : Prop := ∀ H : Hp, SqT K H a [V.str settleS, V.str dealS]
theorem inV_rw (z : Str) : inV (.str z) [V.str settleS, V.str dealS] = isRW z := by
  have h := inV_str (x := z) (l := [settleS, dealS])
  unfold isRW
  rw [show ([V.str settleS, V.str dealS] : List V) = [settleS, dealS].map V.str from rfl, h, Bool.eq_iff_iff]
  simp
noncomputable def Asc (z : Str) : Prop := z.length ≤ 1000 ∧ ∀ c ∈ z.cps.toList, c < 128
noncomputable def spIsName : Sp := fun vs H Q _ => ∃ z : Str, vs = [.str z] ∧ Asc z ∧ ∀ H', Same H H' → Q (.bl (nameB z)) H'
noncomputable def spAreNames (K : PySem.W.Frag) : Sp := fun vs H Q _ => ∃ (wp : Addr) (ws : List Str), vs = [.ref wp] ∧ SqL K H wp (ws.map V.str) ∧ ws.length ≤ 300 ∧ (∀ w ∈ ws, Asc w) ∧ ∀ H', Same H H' → Q (.bl (namesB ws)) H'
noncomputable def spFRW (K : PySem.W.Frag) : Sp := fun vs H Q _ => ∃ (wp : Addr) (ws : List Str), vs = [.ref wp] ∧ SqL K H wp (ws.map V.str) ∧ ws.length ≤ 300 ∧ (∀ k w, ws[k]? = some w → isRW w = true → (∀ v ∈ ws.take k, isRW v = false) → ∀ H', Same H H' → Q (vN k) H') ∧ ((∀ v ∈ ws, isRW v = false) → ∀ H', Same H H' → Q .non H')
noncomputable def spReadNames0 : Sp := fun vs H Q _ => ∃ (t : Str) (ws : List Str), vs = [.str t] ∧ t.length ≤ 290 ∧ Txt.split t spaceS = columnsS :: ws ∧ ws.length ≤ 100 ∧ (∀ w ∈ ws, Asc w) ∧ namesB ws = true ∧ ∀ (l : Addr) (H' : Hp), Same H H' → H l = none → H' l = some (.lst (ws.map V.str)) → Q (.ref l) H'
noncomputable def spReadRule0 (K : PySem.W.Frag) : Sp := fun vs H Q _ => ∃ (np : Addr) (nms : List Str) (r : RD), vs = [.ref np, .str (lineS nms r)] ∧ NAt K H np nms ∧ NM nms ∧ NW nms ∧ InR nms r ∧ r.2.2 ≠ 0 ∧ ∀ (l : Addr) (H' : Hp), Same H H' → H l = none → RuleAt H' l r.1 r.2.1 r.2.2 → Q (.ref l) H'
noncomputable def spRead0 : Sp := fun vs H Q _ => ∃ (nms : List Str) (rs : List RD), vs = [.str (textS nms rs)] ∧ NM nms ∧ NW nms ∧ (∀ r ∈ rs, InR nms r ∧ r.2.2 ≠ 0) ∧ rs.length ≤ 12 ∧
  ∀ (t nl rl : Addr) (ks : List Rl) (H' : Hp), Same H H' → H nl = none → H rl = none → nl ≠ rl → ks.map Rl.d = rs → RulesAt H' nms.length ks → H' t = some (.tup [.ref nl, .ref rl]) → H' nl = some (.lst (nms.map V.str)) → H' rl = some (.lst (ks.map fun r => V.ref r.r)) → (∀ r ∈ ks, r.r ≠ nl ∧ r.r ≠ rl) → Q (.ref t) H'
noncomputable def spShowRule (K : PySem.W.Frag) : Sp := fun vs H Q _ => ∃ (np : Addr) (nms : List Str) (r : Rl), vs = [.ref np, .ref r.r] ∧ NAt K H np nms ∧ NM nms ∧ RuleAt H r.r r.st r.x r.y ∧ InR nms r.d ∧ ∀ H', Same H H' → Q (.str (lineS nms r.d)) H'
noncomputable def spShown (K : PySem.W.Frag) : Sp := fun vs H Q _ => ∃ (np rl : Addr) (nms : List Str) (rs : List Rl), vs = [.ref np, .ref rl] ∧ H np = some (.lst (nms.map V.str)) ∧ NM nms ∧ SqL K H rl (rs.map fun r => V.ref r.r) ∧ RulesAt H nms.length rs ∧ rs.length ≤ 12 ∧ ∀ H', Same H H' → Q (.str (textS nms (rs.map Rl.d))) H'
theorem rules_in {H : Hp} {nms : List Str} {rs : List Rl} (h : RulesAt H nms.length rs) : ∀ r ∈ rs.map Rl.d, InR nms r := fun r hr => by
  obtain ⟨k, hk, rfl⟩ := List.mem_map.mp hr
  exact (h k hk).2
theorem cut_from1 {xs : List V} {x : V} : cutV (x :: xs) (some 1) none = xs := by
  unfold cutV
  have e1 : HT.sIx (x :: xs).length 0 (some 1) = 1 := by unfold HT.sIx; simp
  have e2 : HT.sIx (x :: xs).length (x :: xs).length none = (x :: xs).length := rfl
  rw [e1, e2]
  simp
theorem cut_to {A B : List V} : cutV (A ++ B) none (some (A.length : Int)) = A := by
  unfold cutV
  have e1 : HT.sIx (A ++ B).length 0 none = 0 := rfl
  have e2 : HT.sIx (A ++ B).length (A ++ B).length (some (A.length : Int)) = A.length := by rw [HT.sIx_nat, List.length_append]; omega
  rw [e1, e2]
  simp
theorem cut_after {A B : List V} {w : V} : cutV (A ++ w :: B) (some ((A.length + 1 : Nat) : Int)) none = B := by
  unfold cutV
  have e1 : HT.sIx (A ++ w :: B).length 0 (some ((A.length + 1 : Nat) : Int)) = A.length + 1 := by rw [HT.sIx_nat, List.length_append, List.length_cons]; omega
  have e2 : HT.sIx (A ++ w :: B).length (A ++ w :: B).length none = (A ++ w :: B).length := rfl
  rw [e1, e2, List.take_of_length_le (by rw [List.length_drop]; exact Nat.le_refl _)]
  simp
end L2

namespace Own
open PySem L2
noncomputable def top (i : Nat) : Stmt := PySem.Challenge.pw_splithouse_k80_tables_read_and_shown.main.body.getD i (.Pass ⟨0, 0, 0, 0⟩)
section
variable {P : Program} {w : World} {K : PySem.W.Frag} {mg : Str → Option Value} {base : Heap}
seal PySem.wpAny
noncomputable abbrev sIsName : Stmt := top 12
theorem scIsName : FnScope ["word"] ["word"] (defScope sIsName) := ⟨rfl, rfl, rfl, by decide +kernel, rfl, by decide +kernel, by decide +kernel⟩
theorem ok_isname {f RWA : Addr} {fd : FuncData} {tkLN tkLE : PySem.Tok} (F : Fun K "is_name" "is_name" sIsName f fd) (mLN : mg "LONGEST_NAME" = some (.int 8 tkLN)) (mLE : mg "LETTERS" = some (.str letS tkLE)) (mRWW : mg "RULE_WORDS" = some (.ref RWA)) (hRW : RWT K RWA) (zlen : mg "len" = none) (zall : mg "all" = none) : FnOk P w K mg base CX0 1 f fd ["word"] spIsName := by
  refine F.ok scIsName (fun vs H Q E h => ?_) (fun cdv A outer s H vs Q E hr h => ?_)
  · obtain ⟨z, rfl, _⟩ := h
    rfl
  · obtain ⟨z, rfl, ⟨lz, az⟩, q⟩ := h
    have nd := scIsName.nd
    have sz := sizeLine_eq
    refine ⟨_, (pss_cons (ps_if (PW.pt (pw_or (pt_cmpR op_eq (pv 0) pe_str (nomark _)) (pw_or (pt_cmpR op_gtN (pe_callB (call_len) (by rfl) zlen PySem.boot_len (pa_cons (pv 0) pa_nil)) (pe_glob (v := vN 8) (by rfl) mLN ⟨_, rfl⟩) (nomark _)) (pw_or1 (pt_cmpR (op_inKN (K := K) rfl) (pv 0) (pe_glob (v := .ref RWA) (by rfl) mRWW rfl) (by rfl)))))) (pss_one (ps_ret pe_bl)) pss_nil)
      (pss_one (ps_ret (pe_callB (call_allK (K := K) rfl rfl) (by rfl) zall PyProof.Rows.boot_all (pa_cons (pe_comp (xs := ["sign"]) (cs ["word"] (defScope sIsName) rfl rfl (by decide +kernel)) rfl (pi_str (pv 0)) (fun _ _ _ => pg_name (i := 0) (show (["sign", "word"] : List Str).Nodup by decide +kernel) rfl (Or.inl rfl)) (fun _ _ _ => pts_nil) (fun _ _ _ => (pe_cmpR op_in_str (pv 0) (pe_glob (v := .str letS) (by rfl) mLE ⟨_, rfl⟩) (by rfl)))) pa_nil))))), ?_⟩
    refine ⟨_, rfl, rfl, _, rfl, ?_⟩
    refine ite2 (fun h0 => ?_) (fun h0 => ?_)
    · refine iteT ?_
      have e : z = noS := by
        have := of_decide_eq_true h0
        injection this
      have := q H (Same.refl _)
      rw [e] at this
      exact this
    have z1 : 1 ≤ z.length := Nat.pos_of_ne_zero fun e => h0 (decide_eq_true (by
      have : z = noS := by
        cases z with | mk a =>
        have e' : a.size = 0 := e
        rw [Array.eq_empty_of_size_eq_zero e']; rfl
      rw [this]; rfl))
    refine ⟨_, rfl, _, _, rfl, ⟨by omega, rfl⟩, z.length, 8, rfl, rfl, _, rfl, ?_⟩
    refine ite2 (fun h8 => ?_) (fun h8 => ?_)
    · refine iteT ?_
      have e : nameB z = false := by
        unfold nameB
        rw [decide_eq_false (p := z.length ≤ 8) (by have := of_decide_eq_true h8; omega)]
        simp
      rw [← e]
      exact q H (Same.refl _)
    have z8 : z.length ≤ 8 := Nat.le_of_not_lt fun c => h8 (decide_eq_true c)
    refine ⟨_, rfl, RWA, _, rfl, .inr (hRW _), rfl, rfl, _, rfl, ?_⟩
    rw [if_neg Bool.false_ne_true, inV_rw]
    refine ite2 (fun hw => ?_) (fun hw => ?_)
    · have e : nameB z = false := by
        unfold nameB
        rw [hw]
        simp
      rw [← e]
      exact q H (Same.refl _)
    have hw : isRW z = false := Bool.eq_false_iff.mpr hw
    refine ⟨_, rfl, z, rfl, az, lc_str (fun i acc H' => H' = H ∧ acc = ((z.cps.toList.take i).map lowB).map V.bl) (by omega) ⟨rfl, rfl⟩ (fun i acc H' hi h => ?_) (fun i c acc H' hc h => ?_) (fun acc H' h => ?_)⟩
    · obtain ⟨rfl, rfl⟩ := h
      rw [List.length_map, List.length_map]
      exact List.length_take_le _ _
    · obtain ⟨rfl, rfl⟩ := h
      refine ⟨rfl, _, rfl, _, _, rfl, rfl, rfl, ?_⟩
      rw [in_letters c (az c (List.mem_of_getElem? hc)), List.take_succ, hc, List.map_append, List.map_append]
      rfl
    obtain ⟨rfl, rfl⟩ := h
    intro l hl
    refine ⟨l, (z.cps.toList.take z.length).map lowB, rfl, SqL.of upd_same, ?_⟩
    have e : ((z.cps.toList.take z.length).map lowB).all id = nameB z := by
      have et : z.cps.toList.take z.length = z.cps.toList := List.take_of_length_le (by rw [Array.length_toList]; exact Nat.le_refl _)
      unfold nameB
      rw [et, hw, decide_eq_true z1, decide_eq_true z8, List.all_map]
      rfl
    rw [e]
    exact q _ (Same.new hl)
end
end Own

namespace Own
open PySem L2
section
variable {P : Program} {w : World} {K : PySem.W.Frag} {mg : Str → Option Value} {base : Heap}
seal PySem.wpAny
noncomputable abbrev sAreNames : Stmt := top 13
theorem scAreNames : FnScope ["words"] ["words"] (defScope sAreNames) := ⟨rfl, rfl, rfl, by decide +kernel, rfl, by decide +kernel, by decide +kernel⟩
theorem ok_arenames {f fISN : Addr} {fd fdISN : FuncData} {tkMC : PySem.Tok} (F : Fun K "are_names" "are_names" sAreNames f fd) (GISN : FnOk P w K mg base CX0 1 fISN fdISN ["word"] spIsName) (mISN : mg "is_name" = some (.ref fISN)) (kISN : PySem.W.keepIn K (.ref fISN) = true) (bISN : Binds K fdISN ["word"] []) (mMC : mg "MOST_COLUMNS" = some (.int 7 tkMC)) (zlen : mg "len" = none) (zall : mg "all" = none) (zset : mg "set" = none) : FnOk P w K mg base CX0 2 f fd ["words"] (spAreNames K) := by
  refine F.ok scAreNames (fun vs H Q E h => ?_) (fun cdv A outer s H vs Q E hr h => ?_)
  · obtain ⟨wp, ws, rfl, _⟩ := h
    rfl
  · obtain ⟨wp, ws, rfl, hw, lw, aw, q⟩ := h
    have nd := scAreNames.nd
    have hr1 : Room 1 _ := hr.mono (by decide)
    have lm : (ws.map V.str).length = ws.length := List.length_map ..
    refine ⟨_, (pss_cons (ps_if (PW.pt (pw_or (pt_cmpR (op_eqD (K := K) rfl hr.units) (pv 0) (pe_lst pa_nil) (nomark _)) (pw_or (pt_cmpR op_gtN (pe_callB (call_lenK (K := K) rfl) (by rfl) zlen PySem.boot_len (pa_cons (pv 0) pa_nil)) (pe_glob (v := vN 7) (by rfl) mMC ⟨_, rfl⟩) (nomark _)) (pw_or1 (pt_cmpR op_ltN (pe_callB call_lenSS (by rfl) zlen PySem.boot_len (pa_cons (pe_callTy (call_setS (K := K) rfl rfl) (by rfl) zset PyProof.Rows.boot_set (pa_cons (pv 0) pa_nil)) pa_nil)) (pe_callB (call_lenK (K := K) rfl) (by rfl) zlen PySem.boot_len (pa_cons (pv 0) pa_nil)) (nomark _)))))) (pss_one (ps_ret pe_bl)) pss_nil)
      (pss_one (ps_ret (pe_callB (call_allK (K := K) rfl rfl) (by rfl) zall PyProof.Rows.boot_all (pa_cons (pe_comp (xs := ["word"]) (cs ["words"] (defScope sAreNames) rfl rfl (by decide +kernel)) rfl (pi_listK (K := K) rfl (pv 0)) (fun _ _ _ => pg_name (i := 0) (show (["word", "words"] : List Str).Nodup by decide +kernel) rfl (Or.inl rfl)) (fun _ _ _ => pts_nil) (fun _ _ _ => (pe_call GISN hr1 rfl mISN kISN bISN .nil pass0 (pa_cons (pv 0) pa_nil)))) pa_nil))))), ?_⟩
    refine ⟨_, rfl, (by show 0 ≤ sizeLine; decide), fun e0 he0 => ?_⟩
    have s1 := Same.new (o := .lst []) he0
    have h0 : (upd H e0 (.lst [])) e0 = some (.lst []) := upd_same
    generalize upd H e0 (.lst []) = H1 at s1 h0
    refine ⟨.list (ws.map PyData.str), .list (([] : List Str).map PyData.str), .lst (s1.seq hw) (strs_dv ws), .lst (SqL.of h0) .nil, shaped_strs (fun w hw c hc => Nat.lt_trans ((aw w hw).2 c hc) (by decide)), shaped_strs (fun w hw => absurd hw List.not_mem_nil), noMix_list noMix_dS _ _, _, rfl, ?_⟩
    rw [if_neg Bool.false_ne_true, same_list same_dS]
    refine ite2 (fun hc => ?_) (fun hc => ?_)
    · refine iteT ?_
      have e : ws = [] := of_decide_eq_true hc
      have e2 : namesB ws = false := by rw [e]; rfl
      rw [← e2]
      exact q _ s1
    have w0 : ws ≠ [] := fun e => hc (decide_eq_true e)
    refine ⟨_, rfl, wp, _, rfl, .inl (s1.seq hw), (ws.map V.str).length, 7, rfl, rfl, _, rfl, ?_⟩
    rw [lm]
    refine ite2 (fun hc => ?_) (fun hc => ?_)
    · refine iteT ?_
      have e2 : namesB ws = false := by
        unfold namesB
        rw [decide_eq_false (p := ws.length ≤ 7) (by have := of_decide_eq_true hc; omega)]
        simp
      rw [← e2]
      exact q _ s1
    have w7 : ws.length ≤ 7 := Nat.le_of_not_lt fun c => hc (decide_eq_true c)
    refine ⟨_, rfl, wp, ws, rfl, s1.seq hw, by omega, fun l hl => ?_⟩
    have s2 := s1.trans (Same.new (o := ssO P w l (distS ws).length) hl)
    have hl2 : (upd H1 l (ssO P w l (distS ws).length)) l = some (ssO P w l (distS ws).length) := upd_same
    have dl := dist_len ws
    refine ⟨l, (distS ws).length, rfl, hl2, by omega, _, rfl, wp, _, rfl, .inl (s2.seq hw), (distS ws).length, (ws.map V.str).length, rfl, rfl, _, rfl, ?_⟩
    rw [lm]
    have hgen : ∀ H2 : Hp, H2 = upd H1 l (ssO P w l (distS ws).length) → Same H H2 := fun H2 e => by rw [e]; exact s2
    generalize hHH : upd H1 l _ = H2
    replace s2 := hgen H2 hHH.symm
    clear hgen hHH hl2
    refine ite2 (fun hc => ?_) (fun hc => ?_)
    · have e2 : namesB ws = false := by
        unfold namesB
        rw [decide_eq_false (p := ws.Nodup) (fun z => by have := of_decide_eq_true hc; have := dl.2.mpr z; omega)]
        simp
      rw [← e2]
      exact q _ s2
    have wn : ws.Nodup := dl.2.mp (by have : ¬ (distS ws).length < ws.length := fun c => hc (decide_eq_true c); omega)
    refine ⟨_, rfl, wp, rfl, ⟨_, s2.seq hw⟩, lc_list (K := K) (xs := ws.map V.str) (fun j acc H' => Same H H' ∧ acc = ((ws.take j).map nameB).map V.bl) (by omega) ⟨s2, rfl⟩ (fun j acc H' hj h => ?_) (fun j v acc H' hv h => ?_) (fun acc H' h => ?_)⟩
    · obtain ⟨s3, rfl⟩ := h
      exact ⟨s3.seq hw, by rw [List.length_map, List.length_map]; exact List.length_take_le _ _⟩
    · obtain ⟨s3, rfl⟩ := h
      rw [List.getElem?_map] at hv
      cases ec : ws[j]? with
      | none => rw [ec] at hv; cases hv
      | some x =>
        rw [ec] at hv
        obtain rfl := (Option.some.inj hv).symm
        refine ⟨rfl, _, rfl, x, rfl, aw x (List.mem_of_getElem? ec), fun H4 s4 => ⟨s3.trans s4, ?_⟩⟩
        rw [List.take_succ, ec, List.map_append, List.map_append]
        rfl
    obtain ⟨s3, rfl⟩ := h
    rw [lm, List.take_length]
    intro l2 hl2
    refine ⟨l2, ws.map nameB, rfl, SqL.of upd_same, ?_⟩
    have e2 : (ws.map nameB).all id = namesB ws := by
      unfold namesB
      rw [decide_eq_true w7, decide_eq_true wn, List.all_map, show ws.isEmpty = false from List.isEmpty_eq_false_iff.mpr w0]
      rfl
    rw [e2]
    exact q _ (s3.trans (Same.new hl2))
end
end Own

namespace Own
open PySem L2
section
variable {P : Program} {w : World} {K : PySem.W.Frag} {mg : Str → Option Value} {base : Heap}
seal PySem.wpAny
noncomputable abbrev sFRW : Stmt := top 16
theorem scFRW : FnScope ["words", "at", "word"] ["words"] (defScope sFRW) := ⟨rfl, rfl, rfl, by decide +kernel, rfl, by decide +kernel, by decide +kernel⟩
theorem ok_frw {f RWA : Addr} {fd : FuncData} (F : Fun K "first_rule_word" "first_rule_word" sFRW f fd) (mRWW : mg "RULE_WORDS" = some (.ref RWA)) (hRW : RWT K RWA) (zenumerate : mg "enumerate" = none) : FnOk P w K mg base CX0 1 f fd ["words"] (spFRW K) := by
  refine F.ok scFRW (fun vs H Q E h => ?_) (fun cdv A outer s H vs Q E hr h => ?_)
  · obtain ⟨wp, ws, rfl, _⟩ := h
    rfl
  · obtain ⟨wp, ws, rfl, hw, lw, q1, q0⟩ := h
    have nd := scFRW.nd
    have lm : (ws.map V.str).length = ws.length := List.length_map ..
    refine ⟨_, (pss_cons (ps_for PassesOwn.never rfl (pi_enum (K := K) rfl rfl zenumerate (pa_cons (pv 0) pa_nil)) (pg_tup rfl (pgs_cons (pg_name (i := 1) nd rfl (Or.inl rfl)) (pgs_cons (pg_name (i := 2) nd rfl (Or.inl rfl)) pgs_nil))) (pss_one (ps_if (pt_cmpR (op_inKN (K := K) rfl) (pv 2) (pe_glob (v := .ref RWA) (by rfl) mRWW rfl) (by rfl)) (pss_one (ps_ret (pv 1))) pss_nil)))
      (pss_one (ps_ret pe_non))), ?_⟩
    refine ⟨_, rfl, wp, _, rfl, hw, for_enum (xs := ws.map V.str) (fun i σ H' => (∃ v1 v2, σ = [some (.ref wp), v1, v2]) ∧ Same H H' ∧ ∀ v ∈ ws.take i, isRW v = false) ⟨⟨_, _, rfl⟩, Same.refl _, fun v hv => by rw [List.take_zero] at hv; cases hv⟩ (fun i σ H' _ h => h.2.1.seq hw) ?_ ?_⟩
    · rintro i v σ H' t hv ⟨⟨v1, v2, rfl⟩, s1, hno⟩ ht
      rw [List.getElem?_map] at hv
      cases ec : ws[i]? with
      | none => rw [ec] at hv; cases hv
      | some x =>
        rw [ec] at hv
        obtain rfl := (Option.some.inj hv).symm
        refine ⟨t, _, rfl, SqT.of upd_same, rfl, _, _, rfl, _, _, rfl, rfl, ?_⟩
        have s2 := s1.trans (Same.new (o := .tup [.int (i : Int), V.str x]) ht)
        refine ⟨_, rfl, RWA, _, rfl, .inr (hRW _), rfl, rfl, _, rfl, ?_⟩
        rw [if_neg Bool.false_ne_true, inV_rw]
        refine ite2 (fun hc => ?_) (fun hc => ?_)
        · exact ⟨_, rfl, q1 i x ec hc hno _ s2⟩
        · refine ⟨⟨_, _, rfl⟩, s2, fun v hv => ?_⟩
          rw [List.take_succ, ec] at hv
          rcases List.mem_append.mp hv with hv | hv
          · exact hno v hv
          · rw [List.mem_singleton.mp hv]; exact Bool.eq_false_iff.mpr hc
    · rintro σ H' ⟨⟨v1, v2, rfl⟩, s1, hno⟩
      rw [lm, List.take_length] at hno
      exact q0 hno _ s1
noncomputable abbrev sReadNames : Stmt := top 17
theorem scReadNames : FnScope ["line", "words"] ["line"] (defScope sReadNames) := ⟨rfl, rfl, rfl, by decide +kernel, rfl, by decide +kernel, by decide +kernel⟩
theorem ok_readnames {f fAN : Addr} {fd fdAN : FuncData} (F : Fun K "read_names" "read_names" sReadNames f fd) (GAN : FnOk P w K mg base CX0 2 fAN fdAN ["words"] (spAreNames K)) (mAN : mg "are_names" = some (.ref fAN)) (kAN : PySem.W.keepIn K (.ref fAN) = true) (bAN : Binds K fdAN ["words"] []) : FnOk P w K mg base CX0 3 f fd ["line"] spReadNames0 := by
  refine F.ok scReadNames (fun vs H Q E h => ?_) (fun cdv A outer s H vs Q E hr h => ?_)
  · obtain ⟨t, ws, rfl, _⟩ := h
    rfl
  · obtain ⟨t, ws, rfl, lt, es, lw, aw, nb, q⟩ := h
    have nd := scReadNames.nd
    have hr2 : Room 2 _ := hr.mono (by decide)
    have ls : (Txt.split t spaceS).length ≤ 1000 := by rw [es, List.length_cons]; omega
    refine ⟨_, (pss_cons (ps_set (i := 1) nd rfl (Or.inl rfl) (pe_bm PySem.F.plainAttrs_str PySem.F.slot_str_split PySem.F.type_str_split mt_splitL (pv 0) (pa_cons pe_str pa_nil)))
      (pss_cons (ps_if (PW.pt (pw_or (pt_cmpR op_ne (pe_ix (ix_listK (K := K) rfl) (pv 1) pe_int (fun _ _ => rfl)) pe_str (nomark _)) (pw_or1 (pt_not (pt_val (pe_call GAN hr2 rfl mAN kAN bAN .nil pass0 (pa_cons (pe_slice sl_list (pv 1) (po_some pe_int) po_none) pa_nil))))))) (pss_one (ps_ret pe_non)) pss_nil)
      (pss_one (ps_ret (pe_slice sl_list (pv 1) (po_some pe_int) po_none))))), ?_⟩
    refine ⟨_, rfl, rfl, t, spaceS, rfl, rfl, rfl, by omega, ls, fun wl hwl => ?_⟩
    rw [es]
    have s1 := Same.new (o := .lst ((columnsS :: ws).map V.str)) hwl
    have h1 : (upd H wl (.lst ((columnsS :: ws).map V.str))) wl = some (.lst (V.str columnsS :: ws.map V.str)) := upd_same
    generalize upd H wl (.lst ((columnsS :: ws).map V.str)) = H1 at s1 h1
    refine ⟨_, rfl, wl, _, _, _, rfl, rfl, SqL.of h1, atI_nat (j := 0) rfl, rfl, _, rfl, ?_⟩
    refine ite2 (fun hc => absurd hc (by decide)) (fun _ => ?_)
    refine ⟨_, rfl, 1, rfl, wl, _, rfl, SqL.of h1, fun p hp => ?_⟩
    rw [cut_from1]
    have s2 := s1.trans (Same.new (o := .lst (ws.map V.str)) hp)
    have h2 : (upd H1 p (.lst (ws.map V.str))) p = some (.lst (ws.map V.str)) := upd_same
    have h1' := (Same.new (o := .lst (ws.map V.str)) hp) _ _ h1
    generalize upd H1 p (.lst (ws.map V.str)) = H2 at s2 h2 h1'
    refine ⟨p, ws, rfl, SqL.of h2, by omega, aw, fun H3 s3 => ?_⟩
    rw [nb]
    refine ⟨_, rfl, iteF ?_⟩
    refine ⟨_, rfl, 1, rfl, wl, _, rfl, SqL.of (s3 _ _ h1'), fun p2 hp2 => ?_⟩
    rw [cut_from1]
    exact q p2 _ ((s2.trans s3).trans (Same.new hp2)) ((s2.trans s3).none hp2) upd_same
end
end Own

namespace Own
open PySem L2
section
variable {P : Program} {w : World} {K : PySem.W.Frag} {mg : Str → Option Value} {base : Heap}
seal PySem.wpAny
noncomputable abbrev sHas : Stmt := top 4
theorem scHas : FnScope ["some", "column"] ["some", "column"] (defScope sHas) := ⟨rfl, rfl, rfl, by decide +kernel, rfl, by decide +kernel, by decide +kernel⟩
theorem ok_has {f : Addr} {fd : FuncData} (F : Fun K "has_column" "has_column" sHas f fd) : FnOk P w K mg base CX0 1 f fd ["some", "column"] spHas := by
  refine F.ok scHas (fun vs H Q E h => ?_) (fun cdv A outer s H vs Q E hr h => ?_)
  · obtain ⟨a, k, rfl, _⟩ := h
    rfl
  · obtain ⟨a, k, rfl, q⟩ := h
    refine ⟨_, pss_one (ps_ret (pe_cmpR op_eq (pe_op op_and (pe_op op_shr (pv 0) (pv 1)) pe_int) pe_int (nomark _))), ?_⟩
    refine ⟨_, rfl, _, rfl, _, _, rfl, rfl, (by omega), _, _, rfl, rfl, rfl, ?_⟩
    show Q (V.bl (decide (V.int (Builtin.bitAnd ((a : Int) / 2 ^ (k : Int).toNat) 1) = V.int 1))) H
    rw [has_eq]
    exact q
noncomputable abbrev sCols : Stmt := top 5
theorem scCols : FnScope ["some"] ["some"] (defScope sCols) := ⟨rfl, rfl, rfl, by decide +kernel, rfl, by decide +kernel, by decide +kernel⟩
theorem ok_cols {f fH : Addr} {fd fdH : FuncData} (F : Fun K "columns_of" "columns_of" sCols f fd) (GH : FnOk P w K mg base CX0 1 fH fdH ["some", "column"] spHas) (mH : mg "has_column" = some (.ref fH)) (kH : PySem.W.keepIn K (.ref fH) = true) (bH : Binds K fdH ["some", "column"] []) (zR : mg "range" = none) : FnOk P w K mg base CX0 2 f fd ["some"] spCols := by
  refine F.ok scCols (fun vs H Q E h => ?_) (fun cdv A outer s H vs Q E hr h => ?_)
  · obtain ⟨a, rfl, _⟩ := h
    rfl
  · obtain ⟨a, rfl, ha, q⟩ := h
    refine ⟨_, pss_one (ps_ret (pe_comp (xs := ["column"]) (cs ["some"] (defScope sCols) rfl rfl (by decide +kernel)) rfl (pi_range1 rfl zR (pa_cons (pe_bm0 PySem.F.plainAttrs_int PySem.F.slot_int_bit_length PySem.F.type_int_bit_length mt_bitlen (pv 0)) pa_nil))
      (fun _ _ _ => pg_name (i := 0) (show (["column", "some"] : List Str).Nodup by decide +kernel) rfl (Or.inl rfl)) (fun _ _ _ => pts_one (pt_val (pe_call GH hr rfl mH kH bH .nil pass0 (pa_cons (pv 1) (pa_cons (pv 0) pa_nil))))) (fun _ _ _ => pv 0))), ?_⟩
    refine ⟨_, rfl, rfl, (a : Int), rfl, rfl, _, rfl, (by omega), ?_, ?_⟩
    · have := bitsN_le ha
      show ((bitsN a : Nat) : Int) < _
      omega
    · refine lc_range (lo := 0) (k := ((bitsN a : Nat) : Int).toNat) (n := 1) (fun i acc H' => H' = H ∧ acc = ((List.range i).filter (hasB a)).map vN) ?_ ⟨rfl, rfl⟩ (fun i acc H' hi h => ?_) (fun i acc H' hi h => ?_) (fun acc H' h => ?_)
      · have := bitsN_le ha
        omega
      · rw [h.2, List.length_map]
        exact Nat.le_trans (List.length_filter_le _ _) (by simp)
      · obtain ⟨rfl, rfl⟩ := h
        refine ⟨rfl, _, rfl, _, rfl, a, i, ?_, _, rfl, ?_⟩
        · show [vN a, V.int (0 + (i : Int))] = _
          rw [Int.zero_add]; rfl
        · refine ite2 (fun hc => ?_) (fun hc => ?_)
          · refine ⟨_, rfl, rfl, ?_⟩
            rw [filt_succ, if_pos hc, List.map_append, Int.zero_add]
            rfl
          · refine ⟨rfl, ?_⟩
            rw [filt_succ, if_neg hc, List.append_nil]
      · obtain ⟨rfl, rfl⟩ := h
        intro p hp
        exact q p hp
noncomputable abbrev sSetN : Stmt := top 14
theorem scSetN : FnScope ["names", "words", "some", "word", "column"] ["names", "words"] (defScope sSetN) := ⟨rfl, rfl, rfl, by decide +kernel, rfl, by decide +kernel, by decide +kernel⟩
theorem ok_setn {f : Addr} {fd : FuncData} (F : Fun K "set_named" "set_named" sSetN f fd) : FnOk P w K mg base CX0 1 f fd ["names", "words"] (spSetNamed K) := by
  refine F.ok scSetN (fun vs H Q E h => ?_) (fun cdv A outer s H vs Q E hr h => ?_)
  · obtain ⟨np, wp, nms, ws, rfl, _⟩ := h
    rfl
  · obtain ⟨np, wp, nms, ws, rfl, hn, NN, hw, lw, qs, qn⟩ := h
    have nd := scSetN.nd
    have lwm : (ws.map V.str).length = ws.length := List.length_map ..
    have p7 := pow7 NN.l7
    refine ⟨_, (pss_cons (ps_set (i := 2) nd rfl (Or.inl rfl) pe_int)
      (pss_cons (ps_for PassesOwn.never rfl (pi_listK (K := K) rfl (pv 1)) (pg_name (i := 3) nd rfl (Or.inl rfl)) (pss_cons (ps_if (pt_cmpR op_notIn_seq (pv 3) (pv 0) (by rfl)) (pss_one (ps_ret pe_non)) pss_nil)
      (pss_cons (ps_set (i := 4) nd rfl (Or.inl rfl) (pe_bmK (K := K) rfl PySem.F.plainAttrs_list PySem.F.slot_list_index PySem.F.type_list_index (mt_indexS (K := K) rfl) (pv 0) (pa_cons (pv 3) pa_nil)))
      (pss_cons (ps_if (pt_cmpR op_leN (pe_op op_shl1 pe_int (pv 4)) (pv 2) (nomark _)) (pss_one (ps_ret pe_non)) pss_nil)
      (pss_one (ps_set (i := 2) nd rfl (Or.inl rfl) (pe_op op_orN (pv 2) (pe_op op_shl1 pe_int (pv 4)))))))))
      (pss_one (ps_ret (pv 2))))), ?_⟩
    refine ⟨_, rfl, wp, rfl, ⟨_, hw⟩, for_list (K := K) (xs := ws.map V.str) (fun i σ H' => H' = H ∧ ∃ (a : Nat) (v3 v4 : Option V), σ = [some (.ref np), some (.ref wp), some (vN a), v3, v4] ∧ a < 2 ^ nms.length ∧ ws.take i = namN nms a) ⟨rfl, 0, none, none, rfl, Nat.two_pow_pos _, rfl⟩ (fun i σ H' _ h => by rw [h.1]; exact hw) ?_ ?_⟩
    · rintro i v σ H' hv ⟨rfl, a, v3, v4, rfl, ha, et⟩
      rw [List.getElem?_map] at hv
      cases ew : ws[i]? with
      | none => rw [ew] at hv; cases hv
      | some x =>
        rw [ew] at hv
        obtain rfl := (Option.some.inj hv).symm
        refine ⟨_, rfl, _, rfl, np, _, rfl, .inl hn, rfl, flat_str _, _, rfl, ?_⟩
        rw [if_pos rfl, inV_str]
        by_cases hx : x ∈ nms
        · rw [decide_eq_true hx]
          refine iteF ?_
          obtain ⟨k, hk⟩ := List.getElem?_of_mem hx
          have hkl : k < nms.length := (List.getElem?_eq_some_iff.mp hk).1
          have exk : x = nms.getD k noS := by rw [List.getD_eq_getElem?_getD, hk]; rfl
          have pk : 2 ^ k < 2 ^ nms.length := Nat.pow_lt_pow_right (by decide) hkl
          refine ⟨_, rfl, .inl ⟨rfl, _, hn⟩, _, rfl, np, nms, k, rfl, hn, by have := NN.l7; omega, NN.nd, hkl, by rw [exk], ?_⟩
          have k7 := NN.l7
          refine ⟨_, rfl, k, rfl, rfl, by omega, _, rfl, 2 ^ k, a, rfl, rfl, _, rfl, ite2 (fun hc => ?_) (fun hc => ?_)⟩
          · have hc := of_decide_eq_true hc
            refine qn fun s hs e => ?_
            obtain ⟨k', hk', ek', lt⟩ := next_up NN hs ha e et ew
            rw [exk] at ek'
            have := nm_inj NN hkl hk' ek'
            subst this
            omega
          · have hc : a < 2 ^ k := Nat.lt_of_not_le fun z => hc (decide_eq_true z)
            refine ⟨_, rfl, _, rfl, k, rfl, rfl, by omega, a, 2 ^ k, rfl, rfl, rfl, a ||| 2 ^ k, _, _, rfl, Nat.or_lt_two_pow ha pk, ?_⟩
            rw [List.take_succ, ew, et, in_or NN hkl hc, ← exk]
            rfl
        · rw [decide_eq_false hx]
          refine iteT (qn fun s hs e => hx ?_)
          rw [e] at ew
          exact in_mem NN hs (List.mem_of_getElem? ew)
    · rintro σ H' ⟨rfl, a, v3, v4, rfl, ha, et⟩
      rw [lwm, List.take_length] at et
      exact ⟨_, rfl, qs a ha et⟩
noncomputable abbrev sNamesIn : Stmt := top 15
theorem scNamesIn : FnScope ["names", "some"] ["names", "some"] (defScope sNamesIn) := ⟨rfl, rfl, rfl, by decide +kernel, rfl, by decide +kernel, by decide +kernel⟩
theorem ok_namesin {f fC : Addr} {fd fdC : FuncData} (F : Fun K "names_in" "names_in" sNamesIn f fd) (GC : FnOk P w K mg base CX0 2 fC fdC ["some"] spCols) (mC : mg "columns_of" = some (.ref fC)) (kC : PySem.W.keepIn K (.ref fC) = true) (bC : Binds K fdC ["some"] []) : FnOk P w K mg base CX0 3 f fd ["names", "some"] (spNamesIn K) := by
  refine F.ok scNamesIn (fun vs H Q E h => ?_) (fun cdv A outer s H vs Q E hr h => ?_)
  · obtain ⟨np, nms, z, rfl, _⟩ := h
    rfl
  · obtain ⟨np, nms, z, rfl, hn, NN, hz, q⟩ := h
    have nd := scNamesIn.nd
    have hr2 : Room 2 _ := hr.mono (by decide)
    have z128 := small128 NN hz
    refine ⟨_, (pss_one (ps_ret (pe_comp (xs := ["column"]) (cs ["names", "some"] (defScope sNamesIn) rfl rfl (by decide +kernel)) rfl (pi_listK (K := K) rfl (pe_call GC hr2 rfl mC kC bC .nil pass0 (pa_cons (pv 1) pa_nil))) (fun _ _ _ => pg_name (i := 0) (show (["column", "names", "some"] : List Str).Nodup by decide +kernel) rfl (Or.inl rfl)) (fun _ _ _ => pts_nil) (fun _ _ _ => (pe_ix (ix_listK (K := K) rfl) (pv 1) (pv 0) (fun _ _ => rfl)))))), ?_⟩
    refine ⟨_, rfl, z, rfl, by omega, fun p hp => ⟨p, rfl, ⟨_, SqL.of upd_same⟩, ?_⟩⟩
    have s1 := Same.new (o := .lst ((colsN z).map vN)) hp
    have hp1 : (upd H p (.lst ((colsN z).map vN))) p = some (.lst ((colsN z).map vN)) := upd_same
    generalize upd H p (.lst ((colsN z).map vN)) = H1 at s1 hp1
    have lc : ((colsN z).map vN).length ≤ 7 := by
      have := nam_len NN hz
      unfold namN at this
      rw [List.length_map] at this ⊢
      exact this
    refine lc_list (K := K) (xs := (colsN z).map vN) (fun j acc H2 => H2 = H1 ∧ acc = (((colsN z).take j).map fun c => nms.getD c noS).map V.str) (by omega) ⟨rfl, rfl⟩ (fun j acc H2 hj h => ?_) (fun j v acc H2 hv h => ?_) (fun acc H2 h => ?_)
    · obtain ⟨rfl, rfl⟩ := h
      exact ⟨SqL.of hp1, by rw [List.length_map, List.length_map]; exact List.length_take_le _ _⟩
    · obtain ⟨rfl, rfl⟩ := h
      rw [List.getElem?_map] at hv
      cases ec : (colsN z)[j]? with
      | none => rw [ec] at hv; cases hv
      | some c =>
        rw [ec] at hv
        obtain rfl := (Option.some.inj hv).symm
        have hc := cols_lt NN hz (List.mem_of_getElem? ec)
        refine ⟨rfl, _, rfl, _, rfl, np, _, _, _, rfl, rfl, s1.seq hn, atI_nat (j := c) (v := V.str (nms.getD c noS)) (by rw [List.getElem?_map, (getD_nm hc).2]; rfl), rfl, ?_⟩
        rw [List.take_succ, ec, List.map_append, List.map_append]
        rfl
    obtain ⟨rfl, rfl⟩ := h
    rw [List.length_map, List.take_length]
    intro l hl
    exact q l _ (s1.trans (Same.new hl)) (s1.free hl) upd_same
end
end Own

namespace Own
open PySem L2
section
variable {P : Program} {w : World} {K : PySem.W.Frag} {mg : Str → Option Value} {base : Heap}
seal PySem.wpAny
noncomputable abbrev sReadRule : Stmt := top 18
theorem scReadRule : FnScope ["names", "line", "words", "at", "left", "right"] ["names", "line"] (defScope sReadRule) := ⟨rfl, rfl, rfl, by decide +kernel, rfl, by decide +kernel, by decide +kernel⟩
theorem ok_readrule {f fFR fSN : Addr} {fd fdFR fdSN : FuncData} (F : Fun K "read_rule" "read_rule" sReadRule f fd) (GFR : FnOk P w K mg base CX0 1 fFR fdFR ["words"] (spFRW K)) (mFR : mg "first_rule_word" = some (.ref fFR)) (kFR : PySem.W.keepIn K (.ref fFR) = true) (bFR : Binds K fdFR ["words"] []) (GSN : FnOk P w K mg base CX0 1 fSN fdSN ["names", "words"] (spSetNamed K)) (mSN : mg "set_named" = some (.ref fSN)) (kSN : PySem.W.keepIn K (.ref fSN) = true) (bSN : Binds K fdSN ["names", "words"] []) : FnOk P w K mg base CX0 2 f fd ["names", "line"] (spReadRule0 K) := by
  refine F.ok scReadRule (fun vs H Q E h => ?_) (fun cdv A outer s H vs Q E hr h => ?_)
  · obtain ⟨np, nms, r, rfl, _⟩ := h
    rfl
  · obtain ⟨np, nms, r, rfl, hn, NN, NNW, hI, y0, q⟩ := h
    have nd := scReadRule.nd
    have hr1 : Room 1 _ := hr.mono (by decide)
    have rl := rule_len NN hI
    refine ⟨_, (pss_cons (ps_set (i := 2) nd rfl (Or.inl rfl) (pe_bm PySem.F.plainAttrs_str PySem.F.slot_str_split PySem.F.type_str_split mt_splitL (pv 1) (pa_cons pe_str pa_nil)))
      (pss_cons (ps_set (i := 3) nd rfl (Or.inl rfl) (pe_call GFR hr1 rfl mFR kFR bFR .nil pass0 (pa_cons (pv 2) pa_nil)))
      (pss_cons (ps_if (pt_cmpR op_isN (pv 3) pe_non (nomark _)) (pss_one (ps_ret pe_non)) pss_nil)
      (pss_cons (ps_set (i := 4) nd rfl (Or.inl rfl) (pe_call GSN hr1 rfl mSN kSN bSN .nil pass0 (pa_cons (pv 0) (pa_cons (pe_slice sl_list (pv 2) po_none (po_some (pv 3))) pa_nil))))
      (pss_cons (ps_set (i := 5) nd rfl (Or.inl rfl) (pe_call GSN hr1 rfl mSN kSN bSN .nil pass0 (pa_cons (pv 0) (pa_cons (pe_slice sl_list (pv 2) (po_some (pe_op op_addN (pv 3) pe_int)) po_none) pa_nil))))
      (pss_cons (ps_if (PW.pt (pw_or (pt_cmpR op_isN (pv 4) pe_non (nomark _)) (pw_or (pt_cmpR op_isN (pv 5) pe_non (nomark _)) (pw_or1 (pt_cmpR op_eqN (pv 5) pe_int (nomark _)))))) (pss_one (ps_ret pe_non)) pss_nil)
      (pss_one (ps_ret (pe_tup (pa_cons (pe_ix (ix_listK (K := K) rfl) (pv 2) (pv 3) (fun _ _ => rfl)) (pa_cons (pv 4) (pa_cons (pv 5) pa_nil)))))))))))), ?_⟩
    refine ⟨_, rfl, rfl, lineS nms r, spaceS, rfl, rfl, rfl, Nat.le_trans (line_ok NN hI).2 (by decide), by rw [split_line NN hI]; omega, fun wl hwl => ?_⟩
    rw [split_line NN hI]
    have s1 := Same.new (o := .lst ((ruleW nms r).map V.str)) hwl
    have h1 : (upd H wl (.lst ((ruleW nms r).map V.str))) wl = some (.lst ((ruleW nms r).map V.str)) := upd_same
    generalize upd H wl (.lst ((ruleW nms r).map V.str)) = H1 at s1 h1
    have em : (ruleW nms r).map V.str = (namN nms r.2.1).map V.str ++ V.str (wordS r.1) :: (namN nms r.2.2).map V.str := by unfold ruleW; rw [List.map_append]; rfl
    have la := nam_len NN hI.1
    refine ⟨_, rfl, wl, ruleW nms r, rfl, SqL.of h1, by omega, fun k x hk hx hno H2 s2 => ?_, fun no => ?nowd⟩
    case nowd =>
      have := no (wordS r.1) (by unfold ruleW; exact List.mem_append_right _ (List.mem_cons_self ..))
      rw [rw_word] at this
      cases this
    have ka : k = (namN nms r.2.1).length := by
      unfold ruleW at hk hno
      rcases Nat.lt_trichotomy k (namN nms r.2.1).length with c | c | c
      · rw [List.getElem?_append_left c] at hk
        have := NNW x (in_mem NN hI.1 (List.mem_of_getElem? hk))
        rw [hx] at this
        cases this
      · exact c
      · have : wordS r.1 ∈ (namN nms r.2.1 ++ wordS r.1 :: namN nms r.2.2).take k := by
          rw [List.take_append]
          refine List.mem_append_right _ ?_
          obtain ⟨d, hd⟩ : ∃ d, k - (namN nms r.2.1).length = d + 1 := ⟨k - (namN nms r.2.1).length - 1, by omega⟩
          rw [hd, List.take_succ_cons]
          exact List.mem_cons_self ..
        have := hno _ this
        rw [rw_word] at this
        cases this
    subst ka
    have h2 := s2 _ _ h1
    rw [em] at h2
    have s12 := s1.trans s2
    refine ⟨_, rfl, rfl, _, rfl, iteF ?_⟩
    have lA : ((namN nms r.2.1).map V.str).length = (namN nms r.2.1).length := List.length_map ..
    refine ⟨_, rfl, _, rfl, _, rfl, ((namN nms r.2.1).length : Int), rfl, wl, _, rfl, SqL.of h2, fun p hp => ?_⟩
    have ec : cutV ((namN nms r.2.1).map V.str ++ V.str (wordS r.1) :: (namN nms r.2.2).map V.str) none (some ((namN nms r.2.1).length : Int)) = (namN nms r.2.1).map V.str := by
      have := cut_to (A := (namN nms r.2.1).map V.str) (B := V.str (wordS r.1) :: (namN nms r.2.2).map V.str)
      rw [lA] at this
      exact this
    rw [ec]
    have s3 := Same.new (o := .lst ((namN nms r.2.1).map V.str)) hp
    have hp3 : (upd H2 p (.lst ((namN nms r.2.1).map V.str))) p = some (.lst ((namN nms r.2.1).map V.str)) := upd_same
    have h3 := s3 _ _ h2
    replace s3 := s12.trans s3
    generalize upd H2 p (.lst ((namN nms r.2.1).map V.str)) = H3 at s3 hp3 h3
    refine ⟨np, p, nms, namN nms r.2.1, rfl, s3.seq hn, NN, SqL.of hp3, by omega, fun z hz ez => ?_, fun no => absurd rfl (no _ hI.1)⟩
    obtain rfl := in_inj NN hI.1 hz ez
    have lb := nam_len NN hI.2
    refine ⟨_, rfl, _, rfl, _, rfl, (namN nms r.2.1).length, 1, rfl, rfl, (((namN nms r.2.1).length + 1 : Nat) : Int), rfl, wl, _, rfl, SqL.of h3, fun p2 hp2 => ?_⟩
    have ec : cutV ((namN nms r.2.1).map V.str ++ V.str (wordS r.1) :: (namN nms r.2.2).map V.str) (some (((namN nms r.2.1).length + 1 : Nat) : Int)) none = (namN nms r.2.2).map V.str := by
      have := cut_after (A := (namN nms r.2.1).map V.str) (B := (namN nms r.2.2).map V.str) (w := V.str (wordS r.1))
      rw [lA] at this
      exact this
    rw [ec]
    have s4 := Same.new (o := .lst ((namN nms r.2.2).map V.str)) hp2
    have hp4 : (upd H3 p2 (.lst ((namN nms r.2.2).map V.str))) p2 = some (.lst ((namN nms r.2.2).map V.str)) := upd_same
    have h4 := s4 _ _ h3
    replace s4 := s3.trans s4
    generalize upd H3 p2 (.lst ((namN nms r.2.2).map V.str)) = H4 at s4 hp4 h4
    refine ⟨np, p2, nms, namN nms r.2.2, rfl, s4.seq hn, NN, SqL.of hp4, by omega, fun z hz ez => ?_, fun no => absurd rfl (no _ hI.2)⟩
    obtain rfl := in_inj NN hI.2 hz ez
    refine ⟨_, rfl, rfl, _, rfl, iteF ?_⟩
    refine ⟨_, rfl, rfl, _, rfl, iteF ?_⟩
    refine ⟨_, rfl, _, _, rfl, rfl, _, rfl, ?_⟩
    rw [decide_eq_false y0]
    refine iteF ?_
    refine ⟨_, rfl, _, rfl, wl, _, _, _, rfl, rfl, SqL.of h4, atI_nat (j := (namN nms r.2.1).length) (v := V.str (wordS r.1)) (by rw [List.getElem?_append_right (by rw [lA]; exact Nat.le_refl _), lA, Nat.sub_self]; rfl), _, rfl, _, rfl, (by show 3 ≤ sizeLine; decide), fun t ht => ?_⟩
    exact q t _ (s4.trans (Same.new ht)) (s4.none ht) upd_same
end
end Own

namespace L2
open PySem PySem.Spec PyProof.Rows
section
variable {prog : Program} {w : World} {A : Around} {E : Value → Shared → Prop} {s : Shared}
end
section
variable {X : Cx} {pins : List (Addr × Obj)} {σ : St} {H : Hp} {s : Shared}
end
end L2

namespace L2
open PySem PySem.Spec PyProof.Rows
/-! ### enumerate from a number on, in a comprehension; tuples added, the left one empty or not; max -/
section
variable {X : Cx} {K : PySem.W.Frag}
end
end L2

namespace L2
open PySem PySem.Spec PyProof.Rows
/-! ### filling a table, told exactly -/
end L2

namespace L2
open PySem PySem.Spec PyProof.Rows
theorem for_rangeF {a n : Nat} {g : TG} {tb : TS} {D : Ends} {σ : St} {H : Hp} (Pv : Nat → St → Hp → Prop) (h0 : Pv 0 σ H)
    (hs : ∀ i σ H, i < n → Pv i σ H → g (vN (a + i)) σ H fun σ2 H2 => tb { D with nx := Pv (i + 1), ct := Pv (i + 1), bk := D.nx } σ2 H2) (hd : ∀ σ H, Pv n σ H → D.nx σ H) :
    ∃ W : Nat → Nat → St → Hp → Prop, (∃ m, W 0 m σ H) ∧ ∀ i m σ H, W i m σ H →
      ((Itr (a : Int) n).stop i H ∧ D.nx σ H) ∨ ((Itr (a : Int) n).go i H ∧ ∃ N : St → Hp → Prop, (∀ σ' H', N σ' H' → ∃ m', m' < m ∧ W (i + 1) m' σ' H') ∧ ∀ x H', (Itr (a : Int) n).yld i H x H' → g x σ H' fun σ2 H2 => tb { D with nx := N, ct := N, bk := D.nx } σ2 H2) :=
  for_range (lo := (a : Int)) Pv h0 (fun i σ H hi p => by
    have e : (a : Int) + (i : Int) = ((a + i : Nat) : Int) := by omega
    rw [e]; exact hs i σ H hi p) hd
theorem to_nat {n a : Nat} : ((n : Int) - (a : Int)).toNat = n - a := by omega
end L2

namespace Own
open PySem L2
section
variable {P : Program} {w : World} {K : PySem.W.Frag} {mg : Str → Option Value} {base : Heap}
seal PySem.wpAny
noncomputable abbrev sRead : Stmt := top 19
theorem scRead : FnScope ["text", "lines", "names", "rules", "number", "rule"] ["text"] (defScope sRead) := ⟨rfl, rfl, rfl, by decide +kernel, rfl, by decide +kernel, by decide +kernel⟩
theorem ok_read {f fRN fRR : Addr} {fd fdRN fdRR : FuncData} {tkMR : PySem.Tok} (F : Fun K "read" "read" sRead f fd) (GRN : FnOk P w K mg base CX0 3 fRN fdRN ["line"] spReadNames0) (mRN : mg "read_names" = some (.ref fRN)) (kRN : PySem.W.keepIn K (.ref fRN) = true) (bRN : Binds K fdRN ["line"] []) (GRR : FnOk P w K mg base CX0 2 fRR fdRR ["names", "line"] (spReadRule0 K)) (mRR : mg "read_rule" = some (.ref fRR)) (kRR : PySem.W.keepIn K (.ref fRR) = true) (bRR : Binds K fdRR ["names", "line"] []) (mMR : mg "MOST_RULES" = some (.int 12 tkMR)) (zisinstance : mg "isinstance" = none) (zstr : mg "str" = none) (zrange : mg "range" = none) (zlen : mg "len" = none) : FnOk P w K mg base CX0 4 f fd ["text"] spRead0 := by
  refine F.ok scRead (fun vs H Q E h => ?_) (fun cdv A outer s H vs Q E hr h => ?_)
  · obtain ⟨nms, rs, rfl, _⟩ := h
    rfl
  · obtain ⟨nms, rs, rfl, NN, NNW, hI, l12, q⟩ := h
    have nd := scRead.nd
    have hr2 : Room 2 _ := hr.mono (by decide)
    have hr3 : Room 3 _ := hr.mono (by decide)
    have hI1 : ∀ r ∈ rs, InR nms r := fun r hr' => (hI r hr').1
    have tl := text_len NN hI1 l12
    have l7 := NN.l7
    refine ⟨_, (pss_cons (ps_if (pt_not (pt_val (pe_callB (call_isK (K := K) rfl) (by rfl) zisinstance PyProof.Rows.boot_isinstance (pa_cons (pv 0) (pa_cons (pe_bltn (v := .ty "str") rfl zstr PyProof.Rows.boot_str rfl) pa_nil))))) (pss_one ps_never) pss_nil)
      (pss_cons (ps_set (i := 1) nd rfl (Or.inl rfl) (pe_bm PySem.F.plainAttrs_str PySem.F.slot_str_split PySem.F.type_str_split mt_splitL (pv 0) (pa_cons pe_str pa_nil)))
      (pss_cons (ps_set (i := 2) nd rfl (Or.inl rfl) (pe_call GRN hr3 rfl mRN kRN bRN .nil pass0 (pa_cons (pe_ix (ix_listK (K := K) rfl) (pv 1) pe_int (fun _ _ => rfl)) pa_nil)))
      (pss_cons (ps_if (pt_cmpR op_isN (pv 2) pe_non (nomark _)) (pss_one ps_never) pss_nil)
      (pss_cons (ps_set (i := 3) nd rfl (Or.inl rfl) (pe_lst pa_nil))
      (pss_cons (ps_for PassesOwn.never rfl (pi_range2 rfl zrange (pa_cons pe_int (pa_cons (pe_callB (call_lenK (K := K) rfl) (by rfl) zlen PySem.boot_len (pa_cons (pv 1) pa_nil)) pa_nil))) (pg_name (i := 4) nd rfl (Or.inl rfl)) (pss_cons (ps_set (i := 5) nd rfl (Or.inl rfl) (pe_call GRR hr2 rfl mRR kRR bRR .nil pass0 (pa_cons (pv 2) (pa_cons (pe_ix (ix_listK (K := K) rfl) (pv 1) (pv 4) (fun _ _ => rfl)) pa_nil))))
      (pss_cons (ps_if (PW.pt (pw_or (pt_cmpR op_isN (pv 5) pe_non (nomark _)) (pw_or1 (pt_cmpR op_gtN (pv 4) (pe_glob (v := vN 12) (by rfl) mMR ⟨_, rfl⟩) (nomark _))))) (pss_one ps_never) pss_nil)
      (pss_one (ps_expr (pe_bm PySem.F.plainAttrs_list PySem.F.slot_list_append PySem.F.type_list_append mt_append (pv 3) (pa_cons (pv 5) pa_nil)))))))
      (pss_one (ps_ret (pe_tup (pa_cons (pv 2) (pa_cons (pv 3) pa_nil))))))))))), ?_⟩
    refine ⟨_, rfl, _, _, _, true, rfl, .str _, rfl, _, rfl, iteF ?_⟩
    refine ⟨_, rfl, rfl, textS nms rs, nlS, rfl, rfl, rfl, by omega, by rw [split_text NN hI1, lines_len]; omega, fun ll hll => ?_⟩
    rw [split_text NN hI1]
    have s1 := Same.new (o := .lst ((linesS nms rs).map V.str)) hll
    have h1 : (upd H ll (.lst ((linesS nms rs).map V.str))) ll = some (.lst ((linesS nms rs).map V.str)) := upd_same
    generalize upd H ll (.lst ((linesS nms rs).map V.str)) = H1 at s1 h1
    have ho := head_ok NN
    refine ⟨_, rfl, ll, _, _, _, rfl, rfl, SqL.of h1, atI_nat (j := 0) (v := V.str (headS nms)) rfl, headS nms, nms, rfl, by omega, split_head NN, by omega, (fun x hx => ⟨Nat.le_trans (NN.len x hx) (by decide), fun c hc => by have := NN.low x hx c hc; omega⟩), nm_names NN NNW, fun nl H2 s2 hnl0 hnl => ?_⟩
    have h2 := s2 _ _ h1
    have nnl : H nl = none := s1.none hnl0
    refine ⟨_, rfl, rfl, _, rfl, iteF ?_⟩
    refine ⟨(by show 0 ≤ sizeLine; decide), fun rl hrl0 => ?_⟩
    have s3 := Same.new (o := .lst []) hrl0
    have hrl : (upd H2 rl (.lst [])) rl = some (.lst (([] : List Rl).map fun (r : Rl) => V.ref r.r)) := upd_same
    have h3 := s3 _ _ h2
    have hnl3 := s3 _ _ hnl
    have nnr : nl ≠ rl := ne_of_none hnl hrl0
    have nlr : ll ≠ rl := ne_of_none h2 hrl0
    have s12 := s1.trans s2
    have nrl : H rl = none := s12.none hrl0
    replace s3 := s12.trans s3
    generalize upd H2 rl (.lst []) = H3 at s3 hrl h3 hnl3
    have lm : ((linesS nms rs).map V.str).length = rs.length + 1 := by rw [List.length_map, lines_len]
    refine ⟨_, rfl, ll, _, rfl, .inl (SqL.of h3), ((1 : Nat) : Int), ((((linesS nms rs).map V.str).length : Nat) : Int), rfl, ⟨by decide, by decide, by omega, by omega⟩, ?_⟩
    rw [to_nat, lm]
    refine for_rangeF (a := 1) (n := rs.length + 1 - 1) (fun j σ H' => (∃ v4 v5, σ = [some (.str (textS nms rs)), some (.ref ll), some (.ref nl), some (.ref rl), v4, v5]) ∧ ∃ ks : List Rl, ks.map Rl.d = rs.take j ∧ Same H H' ∧ H' ll = some (.lst ((linesS nms rs).map V.str)) ∧ H' nl = some (.lst (nms.map V.str)) ∧ H' rl = some (.lst (ks.map fun (r : Rl) => V.ref r.r)) ∧ RulesAt H' nms.length ks ∧ (∀ r ∈ ks, r.r ≠ nl ∧ r.r ≠ rl)) ⟨⟨_, _, rfl⟩, [], rfl, s3, h3, hnl3, hrl, (fun r h => absurd h List.not_mem_nil), (fun r h => absurd h List.not_mem_nil)⟩ ?_ ?_
    · rintro j σ H' hj ⟨⟨v4, v5, rfl⟩, ks, ek, s', hl', hn', hr', hR, hne⟩
      have hj' : j < rs.length := by omega
      have er : rs[j]? = some rs[j] := List.getElem?_eq_getElem hj'
      have hm := List.mem_of_getElem? er
      generalize rs[j] = r at er hm
      refine ⟨_, rfl, _, rfl, _, rfl, ll, _, _, _, rfl, rfl, SqL.of hl', atI_nat (j := 1 + j) (v := V.str (lineS nms r)) (by rw [Nat.add_comm]; unfold linesS; rw [List.map_cons, List.getElem?_cons_succ, List.getElem?_map, List.getElem?_map, er]; rfl), nl, nms, r, rfl, SqL.of hn', NN, NNW, (hI r hm).1, (hI r hm).2, fun l H4 s4 hl0 hl => ?_⟩
      have lks : ks.length ≤ 12 := by
        have := congrArg List.length ek
        rw [List.length_map, List.length_take] at this
        omega
      have hr4 := s4 _ _ hr'
      refine ⟨_, rfl, rfl, _, rfl, iteF ?_⟩
      refine ⟨_, rfl, 1 + j, 12, rfl, rfl, _, rfl, ?_⟩
      rw [decide_eq_false (p := 12 < 1 + j) (by omega)]
      refine iteF ?_
      refine ⟨_, rfl, .inl ⟨rfl, _, SqL.of hr4⟩, _, rfl, rl, _, _, rfl, rfl, hr4, small1000 (by rw [List.length_map]; omega), ?_⟩
      have n1 : l ≠ nl := (ne_of_none hn' hl0).symm
      have n2 : l ≠ rl := (ne_of_none hr' hl0).symm
      refine ⟨⟨_, _, rfl⟩, ks ++ [⟨l, r.1, r.2.1, r.2.2⟩], ?_, (s'.trans s4).over nrl, ?_, ?_, ?_, fun k hk => ?_, fun k hk => ?_⟩
      · rw [List.map_append, ek, List.take_succ, er]; rfl
      · rw [upd_ne nlr]; exact s4 _ _ hl'
      · rw [upd_ne nnr]; exact s4 _ _ hn'
      · rw [upd_same, List.map_append]; rfl
      · rcases List.mem_append.mp hk with hk | hk
        · refine ⟨?_, (hR k hk).2⟩
          show upd H4 rl _ k.r = _
          rw [upd_ne (hne k hk).2]
          exact s4 _ _ (hR k hk).1
        · rw [List.mem_singleton.mp hk]
          refine ⟨?_, (hI r hm).1⟩
          show upd H4 rl _ l = _
          rw [upd_ne n2]
          exact hl
      · rcases List.mem_append.mp hk with hk | hk
        · exact hne k hk
        · rw [List.mem_singleton.mp hk]; exact ⟨n1, n2⟩
    · rintro σ H' ⟨⟨v4, v5, rfl⟩, ks, ek, s', hl', hn', hr', hR, hne⟩
      rw [Nat.add_sub_cancel, List.take_length] at ek
      refine ⟨_, rfl, _, rfl, (by show 2 ≤ sizeLine; decide), fun t ht => ?_⟩
      have s5 := Same.new (o := .tup [V.ref nl, V.ref rl]) ht
      exact q t nl rl ks _ (s'.trans s5) nnl nrl nnr ek (hR.same s5) upd_same (s5 _ _ hn') (s5 _ _ hr') hne
end
end Own

namespace Own
open PySem L2
section
variable {P : Program} {w : World} {K : PySem.W.Frag} {mg : Str → Option Value} {base : Heap}
seal PySem.wpAny
noncomputable abbrev sShowRule : Stmt := top 20
theorem scShowRule : FnScope ["names", "rule"] ["names", "rule"] (defScope sShowRule) := ⟨rfl, rfl, rfl, by decide +kernel, rfl, by decide +kernel, by decide +kernel⟩
theorem ok_showrule {f fNI : Addr} {fd fdNI : FuncData} (F : Fun K "show_rule" "show_rule" sShowRule f fd) (GNI : FnOk P w K mg base CX0 3 fNI fdNI ["names", "some"] (spNamesIn K)) (mNI : mg "names_in" = some (.ref fNI)) (kNI : PySem.W.keepIn K (.ref fNI) = true) (bNI : Binds K fdNI ["names", "some"] []) : FnOk P w K mg base CX0 4 f fd ["names", "rule"] (spShowRule K) := by
  refine F.ok scShowRule (fun vs H Q E h => ?_) (fun cdv A outer s H vs Q E hr h => ?_)
  · obtain ⟨np, nms, r, rfl, _⟩ := h
    rfl
  · obtain ⟨np, nms, r, rfl, hn, NN, hR, hI, q⟩ := h
    have nd := scShowRule.nd
    have hr3 : Room 3 _ := hr.mono (by decide)
    refine ⟨_, (pss_one (ps_ret (pe_bm PySem.F.plainAttrs_str PySem.F.slot_str_join PySem.F.type_str_join mt_join pe_str (pa_cons (pe_op op_cat (pe_op op_cat (pe_call GNI hr3 rfl mNI kNI bNI .nil pass0 (pa_cons (pv 0) (pa_cons (pe_ix (ix_tupK (K := K) rfl) (pv 1) pe_int (fun _ _ => rfl)) pa_nil))) (pe_lst (pa_cons (pe_ix (ix_tupK (K := K) rfl) (pv 1) pe_int (fun _ _ => rfl)) pa_nil))) (pe_call GNI hr3 rfl mNI kNI bNI .nil pass0 (pa_cons (pv 0) (pa_cons (pe_ix (ix_tupK (K := K) rfl) (pv 1) pe_int (fun _ _ => rfl)) pa_nil)))) pa_nil)))), ?_⟩
    have la : (namN nms r.x).length ≤ 7 := nam_len NN hI.1
    have lb : (namN nms r.y).length ≤ 7 := nam_len NN hI.2
    refine ⟨rfl, _, rfl, _, rfl, r.r, _, _, _, rfl, rfl, SqT.of hR, atI_nat (j := 1) rfl, np, nms, r.x, rfl, hn, NN, hI.1, fun l1 H1 s1 hl0 hl1 => ?_⟩
    refine ⟨_, rfl, r.r, _, _, _, rfl, rfl, SqT.of (s1 _ _ hR), atI_nat (j := 0) rfl, (by show 1 ≤ sizeLine; decide), fun l2 hl2 => ?_⟩
    have s2 := Same.new (o := .lst [V.str (wordS r.st)]) hl2
    have h2 : (upd H1 l2 (.lst [V.str (wordS r.st)])) l2 = some (.lst [V.str (wordS r.st)]) := upd_same
    have h1 := s2 _ _ hl1
    replace s2 := s1.trans s2
    generalize upd H1 l2 (.lst [V.str (wordS r.st)]) = H2 at s2 h2 h1
    refine ⟨l1, l2, _, _, rfl, rfl, h1, h2, Nat.le_of_lt (small1000 (by rw [List.length_map]; show _ + 1 ≤ 1000; omega)), fun l3 hl3 => ?_⟩
    have s3 := Same.new (o := .lst ((namN nms r.x).map V.str ++ [V.str (wordS r.st)])) hl3
    have h3 : (upd H2 l3 (.lst ((namN nms r.x).map V.str ++ [V.str (wordS r.st)]))) l3 = some (.lst ((namN nms r.x).map V.str ++ [V.str (wordS r.st)])) := upd_same
    replace s3 := s2.trans s3
    generalize upd H2 l3 (.lst ((namN nms r.x).map V.str ++ [V.str (wordS r.st)])) = H3 at s3 h3
    refine ⟨_, rfl, _, rfl, r.r, _, _, _, rfl, rfl, SqT.of (s3 _ _ hR), atI_nat (j := 2) rfl, np, nms, r.y, rfl, s3.seq hn, NN, hI.2, fun l4 H4 s4 _ hl4 => ?_⟩
    refine ⟨l3, l4, _, _, rfl, rfl, s4 _ _ h3, hl4, Nat.le_of_lt (small1000 (by rw [List.length_append, List.length_map, List.length_map]; show _ + 1 + _ ≤ 1000; omega)), fun l5 hl5 => ?_⟩
    have em : (namN nms r.x).map V.str ++ [V.str (wordS r.st)] ++ (namN nms r.y).map V.str = (namN nms r.x ++ [wordS r.st] ++ namN nms r.y).map V.str := by rw [List.map_append, List.map_append]; rfl
    have ew : namN nms r.x ++ [wordS r.st] ++ namN nms r.y = ruleW nms r.d := by unfold ruleW; rw [List.append_assoc]; rfl
    rw [em, ew]
    refine ⟨spaceS, l5, ruleW nms r.d, rfl, rfl, SqL.of upd_same, join_okL (fun x hx => (rule_low NN hI x hx).2) rfl (by have := rule_len NN hI; omega), ?_⟩
    rw [join_eq]
    exact q _ ((s3.trans s4).trans (Same.new hl5))
noncomputable abbrev sIn : Stmt := top 28
theorem scIn : FnScope ["_law_names_here", "_law_some"] ["_law_names_here", "_law_some"] (defScope sIn) := ⟨rfl, rfl, rfl, by decide +kernel, rfl, by decide +kernel, by decide +kernel⟩
theorem ok_in {f : Addr} {fd : FuncData} (F : Fun K "_law_in" "_law_in" sIn f fd) (zrange : mg "range" = none) (zlen : mg "len" = none) : FnOk P w K mg base CX0 1 f fd ["_law_names_here", "_law_some"] (spNamesIn K) := by
  refine F.ok scIn (fun vs H Q E h => ?_) (fun cdv A outer s H vs Q E hr h => ?_)
  · obtain ⟨np, nms, z, rfl, _⟩ := h
    rfl
  · obtain ⟨np, nms, z, rfl, hn, NN, hz, q⟩ := h
    have nd := scIn.nd
    have l7 := NN.l7
    have lm : (nms.map V.str).length = nms.length := List.length_map ..
    refine ⟨_, (pss_one (ps_ret (pe_comp (xs := ["_law_k"]) (cs ["_law_names_here", "_law_some"] (defScope sIn) rfl rfl (by decide +kernel)) rfl (pi_range1 rfl zrange (pa_cons (pe_callB (call_lenK (K := K) rfl) (by rfl) zlen PySem.boot_len (pa_cons (pv 0) pa_nil)) pa_nil)) (fun _ _ _ => pg_name (i := 0) (show (["_law_k", "_law_names_here", "_law_some"] : List Str).Nodup by decide +kernel) rfl (Or.inl rfl)) (fun _ _ _ => (pts_one (pt_cmpR op_eqN (pe_op op_andN (pe_op op_shrN (pv 2) (pv 0)) pe_int) pe_int (nomark _)))) (fun _ _ _ => (pe_ix (ix_listK (K := K) rfl) (pv 1) (pv 0) (fun _ _ => rfl)))))), ?_⟩
    refine ⟨_, rfl, np, _, rfl, .inl hn, ((nms.map V.str).length : Int), rfl, by omega, by omega, ?_⟩
    rw [lm]
    refine lc_rangeN (k := nms.length) (fun i acc H' => H' = H ∧ acc = (((List.range i).filter (hasB z)).map fun c => nms.getD c noS).map V.str) (by omega) ⟨rfl, rfl⟩ (fun i acc H' hi h => ?_) (fun i acc H' hi h => ?_) (fun acc H' h => ?_)
    · obtain ⟨rfl, rfl⟩ := h
      rw [List.length_map, List.length_map]
      exact Nat.le_trans (List.length_filter_le _ _) (by rw [List.length_range]; exact Nat.le_refl _)
    · obtain ⟨rfl, rfl⟩ := h
      have hb : decide (z / 2 ^ i &&& 1 = 1) = hasB z i := by
        unfold hasB
        rw [Nat.and_one_is_mod]
      refine ⟨rfl, _, rfl, _, rfl, z, i, rfl, rfl, z / 2 ^ i, 1, rfl, rfl, z / 2 ^ i &&& 1, 1, rfl, rfl, _, rfl, ?_⟩
      rw [hb, List.range_succ, List.filter_append]
      refine ite2 (fun hc => ?_) (fun hc => ?_)
      · refine ⟨_, rfl, _, rfl, np, _, _, _, rfl, rfl, hn, atI_nat (j := i) (v := V.str (nms.getD i noS)) (by rw [List.getElem?_map, (getD_nm hi).2]; rfl), rfl, ?_⟩
        rw [List.filter_cons_of_pos hc, List.filter_nil, List.map_append, List.map_append]
        rfl
      · refine ⟨rfl, ?_⟩
        rw [List.filter_cons_of_neg hc, List.filter_nil, List.append_nil]
    obtain ⟨rfl, rfl⟩ := h
    rw [in_range nms.length (by omega) z hz]
    intro l hl
    exact q l _ (Same.new hl) hl upd_same
noncomputable abbrev sLLine : Stmt := top 29
theorem scLLine : FnScope ["_law_names_here", "_law_rule_here"] ["_law_names_here", "_law_rule_here"] (defScope sLLine) := ⟨rfl, rfl, rfl, by decide +kernel, rfl, by decide +kernel, by decide +kernel⟩
theorem ok_lline {f fIN : Addr} {fd fdIN : FuncData} (F : Fun K "_law_line" "_law_line" sLLine f fd) (GIN : FnOk P w K mg base CX0 1 fIN fdIN ["_law_names_here", "_law_some"] (spNamesIn K)) (mIN : mg "_law_in" = some (.ref fIN)) (kIN : PySem.W.keepIn K (.ref fIN) = true) (bIN : Binds K fdIN ["_law_names_here", "_law_some"] []) : FnOk P w K mg base CX0 2 f fd ["_law_names_here", "_law_rule_here"] (spShowRule K) := by
  refine F.ok scLLine (fun vs H Q E h => ?_) (fun cdv A outer s H vs Q E hr h => ?_)
  · obtain ⟨np, nms, r, rfl, _⟩ := h
    rfl
  · obtain ⟨np, nms, r, rfl, hn, NN, hR, hI, q⟩ := h
    have nd := scLLine.nd
    have hr1 : Room 1 _ := hr.mono (by decide)
    refine ⟨_, (pss_one (ps_ret (pe_bm PySem.F.plainAttrs_str PySem.F.slot_str_join PySem.F.type_str_join mt_join pe_str (pa_cons (pe_op op_cat (pe_op op_cat (pe_call GIN hr1 rfl mIN kIN bIN .nil pass0 (pa_cons (pv 0) (pa_cons (pe_ix (ix_tupK (K := K) rfl) (pv 1) pe_int (fun _ _ => rfl)) pa_nil))) (pe_lst (pa_cons (pe_ix (ix_tupK (K := K) rfl) (pv 1) pe_int (fun _ _ => rfl)) pa_nil))) (pe_call GIN hr1 rfl mIN kIN bIN .nil pass0 (pa_cons (pv 0) (pa_cons (pe_ix (ix_tupK (K := K) rfl) (pv 1) pe_int (fun _ _ => rfl)) pa_nil)))) pa_nil)))), ?_⟩
    have la : (namN nms r.x).length ≤ 7 := nam_len NN hI.1
    have lb : (namN nms r.y).length ≤ 7 := nam_len NN hI.2
    refine ⟨rfl, _, rfl, _, rfl, r.r, _, _, _, rfl, rfl, SqT.of hR, atI_nat (j := 1) rfl, np, nms, r.x, rfl, hn, NN, hI.1, fun l1 H1 s1 hl0 hl1 => ?_⟩
    refine ⟨_, rfl, r.r, _, _, _, rfl, rfl, SqT.of (s1 _ _ hR), atI_nat (j := 0) rfl, (by show 1 ≤ sizeLine; decide), fun l2 hl2 => ?_⟩
    have s2 := Same.new (o := .lst [V.str (wordS r.st)]) hl2
    have h2 : (upd H1 l2 (.lst [V.str (wordS r.st)])) l2 = some (.lst [V.str (wordS r.st)]) := upd_same
    have h1 := s2 _ _ hl1
    replace s2 := s1.trans s2
    generalize upd H1 l2 (.lst [V.str (wordS r.st)]) = H2 at s2 h2 h1
    refine ⟨l1, l2, _, _, rfl, rfl, h1, h2, Nat.le_of_lt (small1000 (by rw [List.length_map]; show _ + 1 ≤ 1000; omega)), fun l3 hl3 => ?_⟩
    have s3 := Same.new (o := .lst ((namN nms r.x).map V.str ++ [V.str (wordS r.st)])) hl3
    have h3 : (upd H2 l3 (.lst ((namN nms r.x).map V.str ++ [V.str (wordS r.st)]))) l3 = some (.lst ((namN nms r.x).map V.str ++ [V.str (wordS r.st)])) := upd_same
    replace s3 := s2.trans s3
    generalize upd H2 l3 (.lst ((namN nms r.x).map V.str ++ [V.str (wordS r.st)])) = H3 at s3 h3
    refine ⟨_, rfl, _, rfl, r.r, _, _, _, rfl, rfl, SqT.of (s3 _ _ hR), atI_nat (j := 2) rfl, np, nms, r.y, rfl, s3.seq hn, NN, hI.2, fun l4 H4 s4 _ hl4 => ?_⟩
    refine ⟨l3, l4, _, _, rfl, rfl, s4 _ _ h3, hl4, Nat.le_of_lt (small1000 (by rw [List.length_append, List.length_map, List.length_map]; show _ + 1 + _ ≤ 1000; omega)), fun l5 hl5 => ?_⟩
    have em : (namN nms r.x).map V.str ++ [V.str (wordS r.st)] ++ (namN nms r.y).map V.str = (namN nms r.x ++ [wordS r.st] ++ namN nms r.y).map V.str := by rw [List.map_append, List.map_append]; rfl
    have ew : namN nms r.x ++ [wordS r.st] ++ namN nms r.y = ruleW nms r.d := by unfold ruleW; rw [List.append_assoc]; rfl
    rw [em, ew]
    refine ⟨spaceS, l5, ruleW nms r.d, rfl, rfl, SqL.of upd_same, join_okL (fun x hx => (rule_low NN hI x hx).2) rfl (by have := rule_len NN hI; omega), ?_⟩
    rw [join_eq]
    exact q _ ((s3.trans s4).trans (Same.new hl5))
end
end Own

namespace Own
open PySem L2
section
variable {P : Program} {w : World} {K : PySem.W.Frag} {mg : Str → Option Value} {base : Heap}
seal PySem.wpAny
noncomputable abbrev sShown : Stmt := top 21
theorem scShown : FnScope ["names", "rules"] ["names", "rules"] (defScope sShown) := ⟨rfl, rfl, rfl, by decide +kernel, rfl, by decide +kernel, by decide +kernel⟩
theorem ok_shown {f fSR : Addr} {fd fdSR : FuncData} (F : Fun K "shown" "shown" sShown f fd) (GSR : FnOk P w K mg base CX0 4 fSR fdSR ["names", "rule"] (spShowRule K)) (mSR : mg "show_rule" = some (.ref fSR)) (kSR : PySem.W.keepIn K (.ref fSR) = true) (bSR : Binds K fdSR ["names", "rule"] []) : FnOk P w K mg base CX0 5 f fd ["names", "rules"] (spShown K) := by
  refine F.ok scShown (fun vs H Q E h => ?_) (fun cdv A outer s H vs Q E hr h => ?_)
  · obtain ⟨np, rl, nms, rs, rfl, _⟩ := h
    rfl
  · obtain ⟨np, rl, nms, rs, rfl, hn, NN, hrl, hR, l12, q⟩ := h
    have nd := scShown.nd
    have hr4 : Room 4 _ := hr.mono (by decide)
    refine ⟨_, (pss_one (ps_ret (pe_bm PySem.F.plainAttrs_str PySem.F.slot_str_join PySem.F.type_str_join mt_join pe_str (pa_cons (pe_op op_cat (pe_lst (pa_cons (pe_bm PySem.F.plainAttrs_str PySem.F.slot_str_join PySem.F.type_str_join mt_join pe_str (pa_cons (pe_op op_cat (pe_lst (pa_cons pe_str pa_nil)) (pv 0)) pa_nil)) pa_nil)) (pe_comp (xs := ["rule"]) (cs ["names", "rules"] (defScope sShown) rfl rfl (by decide +kernel)) rfl (pi_listK (K := K) rfl (pv 1)) (fun _ _ _ => pg_name (i := 0) (show (["rule", "names", "rules"] : List Str).Nodup by decide +kernel) rfl (Or.inl rfl)) (fun _ _ _ => pts_nil) (fun _ _ _ => (pe_call GSR hr4 rfl mSR kSR bSR .nil pass0 (pa_cons (pv 1) (pa_cons (pv 0) pa_nil)))))) pa_nil)))), ?_⟩
    have l7 := NN.l7
    refine ⟨rfl, rfl, (by show 1 ≤ sizeLine; decide), fun l1 hl1 => ?_⟩
    have s1 := Same.new (o := .lst [V.str columnsS]) hl1
    have h1 : (upd H l1 (.lst [V.str columnsS])) l1 = some (.lst [V.str columnsS]) := upd_same
    have hn1 := s1 _ _ hn
    refine ⟨_, rfl, l1, np, _, _, rfl, rfl, h1, hn1, Nat.le_of_lt (small1000 (by rw [List.length_map]; show 1 + _ ≤ 1000; omega)), fun l2 hl2 => ?_⟩
    have s2 := s1.trans (Same.new (o := .lst ((columnsS :: nms).map V.str)) hl2)
    have h2 : (upd (upd H l1 (.lst [V.str columnsS])) l2 (.lst ((columnsS :: nms).map V.str))) l2 = some (.lst ((columnsS :: nms).map V.str)) := upd_same
    refine ⟨spaceS, l2, columnsS :: nms, rfl, rfl, SqL.of h2, join_okL (fun x hx => (head_low NN x hx).2) rfl (by rw [List.length_cons]; omega), ?_⟩
    rw [join_eq]
    have hgen : ∀ H2 : Hp, H2 = upd (upd H l1 (.lst [V.str columnsS])) l2 (.lst ((columnsS :: nms).map V.str)) → Same H H2 := fun H2 e => by rw [e]; exact s2
    generalize hHH : upd (upd H l1 _) l2 _ = H2
    replace s2 := hgen H2 hHH.symm
    clear hgen hHH h2 h1 hn1 s1 hl1 hl2
    refine ⟨(by show 1 ≤ sizeLine; decide), fun l3 hl3 => ?_⟩
    have s3 := s2.trans (Same.new (o := .lst [V.str (headS nms)]) hl3)
    have h3 : (upd H2 l3 (.lst [V.str (headS nms)])) l3 = some (.lst [V.str (headS nms)]) := upd_same
    have hgen : ∀ H3 : Hp, H3 = upd H2 l3 (.lst [V.str (headS nms)]) → Same H H3 ∧ H3 l3 = some (.lst [V.str (headS nms)]) := fun H3 e => by rw [e]; exact ⟨s3, h3⟩
    generalize hHH : upd H2 l3 _ = H3
    obtain ⟨s3, h3⟩ := hgen H3 hHH.symm
    clear hgen hHH s2 hl3
    have lr : (rs.map fun (r : Rl) => V.ref r.r).length = rs.length := List.length_map ..
    refine ⟨_, rfl, rl, rfl, ⟨_, s3.seq hrl⟩, lc_list (K := K) (xs := rs.map fun (r : Rl) => V.ref r.r) (fun j acc H' => Same H H' ∧ H' l3 = some (.lst [V.str (headS nms)]) ∧ acc = (((rs.map Rl.d).take j).map (lineS nms)).map V.str) (by omega) ⟨s3, h3, rfl⟩ (fun j acc H' hj h => ?_) (fun j v acc H' hv h => ?_) (fun acc H' h => ?_)⟩
    · obtain ⟨s4, h4, rfl⟩ := h
      exact ⟨s4.seq hrl, by rw [List.length_map, List.length_map]; exact List.length_take_le _ _⟩
    · obtain ⟨s4, h4, rfl⟩ := h
      rw [List.getElem?_map] at hv
      cases ec : rs[j]? with
      | none => rw [ec] at hv; cases hv
      | some r =>
        rw [ec] at hv
        obtain rfl := (Option.some.inj hv).symm
        have hr' := hR r (List.mem_of_getElem? ec)
        refine ⟨rfl, _, rfl, _, rfl, np, nms, r, rfl, SqL.of (s4 _ _ hn), NN, s4 _ _ hr'.1, hr'.2, fun H5 s5 => ⟨s4.trans s5, s5 _ _ h4, ?_⟩⟩
        rw [List.take_succ, List.getElem?_map, ec, List.map_append, List.map_append]
        rfl
    obtain ⟨s4, h4, rfl⟩ := h
    have et : (rs.map Rl.d).take (rs.map fun (r : Rl) => V.ref r.r).length = rs.map Rl.d := List.take_of_length_le (by rw [lr, List.length_map]; exact Nat.le_refl _)
    rw [et]
    intro l4 hl4
    have s5 := Same.new (o := .lst (((rs.map Rl.d).map (lineS nms)).map V.str)) hl4
    have h5 : (upd H' l4 (.lst (((rs.map Rl.d).map (lineS nms)).map V.str))) l4 = some (.lst (((rs.map Rl.d).map (lineS nms)).map V.str)) := upd_same
    have h45 := s5 _ _ h4
    replace s5 := s4.trans s5
    generalize upd H' l4 (.lst (((rs.map Rl.d).map (lineS nms)).map V.str)) = H5 at s5 h5 h45
    refine ⟨l3, l4, _, _, rfl, rfl, h45, h5, Nat.le_of_lt (small1000 (by rw [List.length_map, List.length_map, List.length_map]; show 1 + _ ≤ 1000; omega)), fun l5 hl5 => ?_⟩
    have hin := rules_in hR
    refine ⟨nlS, l5, linesS nms (rs.map Rl.d), rfl, rfl, SqL.of upd_same, join_okL (fun x hx => (lines_ok NN hin x hx).2) rfl (by rw [lines_len, List.length_map]; omega), ?_⟩
    rw [join_eq]
    exact q _ (s5.trans (Same.new hl5))
noncomputable abbrev sLText : Stmt := top 30
theorem scLText : FnScope ["_law_names_here", "_law_rules_here"] ["_law_names_here", "_law_rules_here"] (defScope sLText) := ⟨rfl, rfl, rfl, by decide +kernel, rfl, by decide +kernel, by decide +kernel⟩
theorem ok_ltext {f fLL : Addr} {fd fdLL : FuncData} (F : Fun K "_law_text" "_law_text" sLText f fd) (GLL : FnOk P w K mg base CX0 2 fLL fdLL ["_law_names_here", "_law_rule_here"] (spShowRule K)) (mLL : mg "_law_line" = some (.ref fLL)) (kLL : PySem.W.keepIn K (.ref fLL) = true) (bLL : Binds K fdLL ["_law_names_here", "_law_rule_here"] []) : FnOk P w K mg base CX0 3 f fd ["_law_names_here", "_law_rules_here"] (spShown K) := by
  refine F.ok scLText (fun vs H Q E h => ?_) (fun cdv A outer s H vs Q E hr h => ?_)
  · obtain ⟨np, rl, nms, rs, rfl, _⟩ := h
    rfl
  · obtain ⟨np, rl, nms, rs, rfl, hn, NN, hrl, hR, l12, q⟩ := h
    have nd := scLText.nd
    have hr2 : Room 2 _ := hr.mono (by decide)
    refine ⟨_, (pss_one (ps_ret (pe_bm PySem.F.plainAttrs_str PySem.F.slot_str_join PySem.F.type_str_join mt_join pe_str (pa_cons (pe_op op_cat (pe_lst (pa_cons (pe_bm PySem.F.plainAttrs_str PySem.F.slot_str_join PySem.F.type_str_join mt_join pe_str (pa_cons (pe_op op_cat (pe_lst (pa_cons pe_str pa_nil)) (pv 0)) pa_nil)) pa_nil)) (pe_comp (xs := ["_law_rule_here"]) (cs ["_law_names_here", "_law_rules_here"] (defScope sLText) rfl rfl (by decide +kernel)) rfl (pi_listK (K := K) rfl (pv 1)) (fun _ _ _ => pg_name (i := 0) (show (["_law_rule_here", "_law_names_here", "_law_rules_here"] : List Str).Nodup by decide +kernel) rfl (Or.inl rfl)) (fun _ _ _ => pts_nil) (fun _ _ _ => (pe_call GLL hr2 rfl mLL kLL bLL .nil pass0 (pa_cons (pv 1) (pa_cons (pv 0) pa_nil)))))) pa_nil)))), ?_⟩
    have l7 := NN.l7
    refine ⟨rfl, rfl, (by show 1 ≤ sizeLine; decide), fun l1 hl1 => ?_⟩
    have s1 := Same.new (o := .lst [V.str columnsS]) hl1
    have h1 : (upd H l1 (.lst [V.str columnsS])) l1 = some (.lst [V.str columnsS]) := upd_same
    have hn1 := s1 _ _ hn
    refine ⟨_, rfl, l1, np, _, _, rfl, rfl, h1, hn1, Nat.le_of_lt (small1000 (by rw [List.length_map]; show 1 + _ ≤ 1000; omega)), fun l2 hl2 => ?_⟩
    have s2 := s1.trans (Same.new (o := .lst ((columnsS :: nms).map V.str)) hl2)
    have h2 : (upd (upd H l1 (.lst [V.str columnsS])) l2 (.lst ((columnsS :: nms).map V.str))) l2 = some (.lst ((columnsS :: nms).map V.str)) := upd_same
    refine ⟨spaceS, l2, columnsS :: nms, rfl, rfl, SqL.of h2, join_okL (fun x hx => (head_low NN x hx).2) rfl (by rw [List.length_cons]; omega), ?_⟩
    rw [join_eq]
    have hgen : ∀ H2 : Hp, H2 = upd (upd H l1 (.lst [V.str columnsS])) l2 (.lst ((columnsS :: nms).map V.str)) → Same H H2 := fun H2 e => by rw [e]; exact s2
    generalize hHH : upd (upd H l1 _) l2 _ = H2
    replace s2 := hgen H2 hHH.symm
    clear hgen hHH h2 h1 hn1 s1 hl1 hl2
    refine ⟨(by show 1 ≤ sizeLine; decide), fun l3 hl3 => ?_⟩
    have s3 := s2.trans (Same.new (o := .lst [V.str (headS nms)]) hl3)
    have h3 : (upd H2 l3 (.lst [V.str (headS nms)])) l3 = some (.lst [V.str (headS nms)]) := upd_same
    have hgen : ∀ H3 : Hp, H3 = upd H2 l3 (.lst [V.str (headS nms)]) → Same H H3 ∧ H3 l3 = some (.lst [V.str (headS nms)]) := fun H3 e => by rw [e]; exact ⟨s3, h3⟩
    generalize hHH : upd H2 l3 _ = H3
    obtain ⟨s3, h3⟩ := hgen H3 hHH.symm
    clear hgen hHH s2 hl3
    have lr : (rs.map fun (r : Rl) => V.ref r.r).length = rs.length := List.length_map ..
    refine ⟨_, rfl, rl, rfl, ⟨_, s3.seq hrl⟩, lc_list (K := K) (xs := rs.map fun (r : Rl) => V.ref r.r) (fun j acc H' => Same H H' ∧ H' l3 = some (.lst [V.str (headS nms)]) ∧ acc = (((rs.map Rl.d).take j).map (lineS nms)).map V.str) (by omega) ⟨s3, h3, rfl⟩ (fun j acc H' hj h => ?_) (fun j v acc H' hv h => ?_) (fun acc H' h => ?_)⟩
    · obtain ⟨s4, h4, rfl⟩ := h
      exact ⟨s4.seq hrl, by rw [List.length_map, List.length_map]; exact List.length_take_le _ _⟩
    · obtain ⟨s4, h4, rfl⟩ := h
      rw [List.getElem?_map] at hv
      cases ec : rs[j]? with
      | none => rw [ec] at hv; cases hv
      | some r =>
        rw [ec] at hv
        obtain rfl := (Option.some.inj hv).symm
        have hr' := hR r (List.mem_of_getElem? ec)
        refine ⟨rfl, _, rfl, _, rfl, np, nms, r, rfl, SqL.of (s4 _ _ hn), NN, s4 _ _ hr'.1, hr'.2, fun H5 s5 => ⟨s4.trans s5, s5 _ _ h4, ?_⟩⟩
        rw [List.take_succ, List.getElem?_map, ec, List.map_append, List.map_append]
        rfl
    obtain ⟨s4, h4, rfl⟩ := h
    have et : (rs.map Rl.d).take (rs.map fun (r : Rl) => V.ref r.r).length = rs.map Rl.d := List.take_of_length_le (by rw [lr, List.length_map]; exact Nat.le_refl _)
    rw [et]
    intro l4 hl4
    have s5 := Same.new (o := .lst (((rs.map Rl.d).map (lineS nms)).map V.str)) hl4
    have h5 : (upd H' l4 (.lst (((rs.map Rl.d).map (lineS nms)).map V.str))) l4 = some (.lst (((rs.map Rl.d).map (lineS nms)).map V.str)) := upd_same
    have h45 := s5 _ _ h4
    replace s5 := s4.trans s5
    generalize upd H' l4 (.lst (((rs.map Rl.d).map (lineS nms)).map V.str)) = H5 at s5 h5 h45
    refine ⟨l3, l4, _, _, rfl, rfl, h45, h5, Nat.le_of_lt (small1000 (by rw [List.length_map, List.length_map, List.length_map]; show 1 + _ ≤ 1000; omega)), fun l5 hl5 => ?_⟩
    have hin := rules_in hR
    refine ⟨nlS, l5, linesS nms (rs.map Rl.d), rfl, rfl, SqL.of upd_same, join_okL (fun x hx => (lines_ok NN hin x hx).2) rfl (by rw [lines_len, List.length_map]; omega), ?_⟩
    rw [join_eq]
    exact q _ (s5.trans (Same.new hl5))
end
end Own

namespace L2
open PySem PySem.Spec PyProof.Rows
noncomputable def spLRul12 (K : PySem.W.Frag) : Sp := fun vs H Q _ => ∃ (sc : Addr) (ns : List Int) (m : Nat), vs = [.ref sc, vN m] ∧ SqL K H sc (ns.map V.int) ∧ 1 ≤ m ∧ m ≤ 7 ∧
  ∀ (rs : List Rl) (p : Addr) (H' : Hp), RulesAt H' m rs → rs.length ≤ 12 → Same H H' → H p = none → H' p = some (.lst (rs.map fun r => V.ref r.r)) → Q (.ref p) H'
noncomputable def spTable80 (K : PySem.W.Frag) : Sp := fun vs H Q _ => ∃ (sc : Addr) (ns : List Int), vs = [.ref sc, vN 7] ∧ SqL K H sc (ns.map V.int) ∧
  ∀ (t nl rl : Addr) (nms : List Str) (rs : List Rl) (H' : Hp), NM nms → NW nms → Same H H' → RulesAt H' nms.length rs → (∀ r ∈ rs, r.y ≠ 0) → rs.length ≤ 12 → H' t = some (.tup [.ref nl, .ref rl]) → H' nl = some (.lst (nms.map V.str)) → H' rl = some (.lst (rs.map fun r => V.ref r.r)) → Q (.ref t) H'
noncomputable def spAlike80 (K : PySem.W.Frag) : Sp := fun vs H Q _ => ∃ (a b : Addr) (n : Nat) (ks rs : List Rl), vs = [.ref a, .ref b] ∧ H a = some (.lst (ks.map fun r => V.ref r.r)) ∧ SqL K H b (rs.map fun r => V.ref r.r) ∧ RulesAt H n ks ∧ RulesAt H n rs ∧ ks.map Rl.d = rs.map Rl.d ∧ ks.length ≤ 12 ∧ ∀ H', Same H H' → Q (.bl true) H'
end L2

namespace Own
open PySem L2
section
variable {P : Program} {w : World} {K : PySem.W.Frag} {mg : Str → Option Value} {base : Heap}
seal PySem.wpAny
noncomputable abbrev sCellAt : Stmt := top 23
theorem scCellAt : FnScope ["_law_script", "_law_k", "_law_number"] ["_law_script", "_law_k"] (defScope sCellAt) := ⟨rfl, rfl, rfl, by decide +kernel, rfl, by decide +kernel, by decide +kernel⟩
theorem ok_cellat {f : Addr} {fd : FuncData} (F : Fun K "_law_cell_at" "_law_cell_at" sCellAt f fd) (zlen : mg "len" = none) : FnOk P w K mg base CX0 1 f fd ["_law_script", "_law_k"] (spCellD K) := by
  refine F.ok scCellAt (fun vs H Q E h => ?_) (fun cdv A outer s H vs Q E hr h => ?_)
  · obtain ⟨sc, ns, k, rfl, _⟩ := h
    rfl
  · obtain ⟨sc, ns, k, rfl, hS, hk, q⟩ := h
    have nd := scCellAt.nd
    have kk : k * k ≤ 1000 * 1000 := Nat.mul_le_mul hk hk
    have p0 : (0 : Int) < 2147483629 := by decide
    refine ⟨_, (pss_cons (ps_if (pt_cmpR op_ltN (pv 1) (pe_callB (call_lenK (K := K) rfl) (by rfl) zlen PySem.boot_len (pa_cons (pv 0) pa_nil)) (nomark _)) (pss_one (ps_ret (pe_op op_mod (pe_ix (ix_listK (K := K) rfl) (pv 0) (pv 1) (fun _ _ => rfl)) pe_int))) pss_nil)
      (pss_cons (ps_set (i := 2) nd rfl (Or.inl rfl) (pe_op op_addN (pe_op op_mulN (pe_op op_mulN (pv 1) (pv 1)) pe_int) pe_int))
      (pss_cons (ps_if (pt_cmpR op_gtN (pe_callB (call_lenK (K := K) rfl) (by rfl) zlen PySem.boot_len (pa_cons (pv 0) pa_nil)) pe_int (nomark _)) (pss_one (ps_set (i := 2) nd rfl (Or.inl rfl) (pe_op op_addN (pv 2) (pe_op op_mulN (pe_op op_mod (pe_ix (ix_listK (K := K) rfl) (pv 0) (pe_op op_modN' (pv 1) (pe_callB (call_lenK (K := K) rfl) (by rfl) zlen PySem.boot_len (pa_cons (pv 0) pa_nil))) (fun _ _ => rfl)) pe_int) pe_int)))) pss_nil)
      (pss_one (ps_ret (pe_op op_modN' (pe_op op_mulN (pv 2) (pv 2)) pe_int)))))), ?_⟩
    have len1 : (ns.map V.int).length = ns.length := List.length_map ..
    refine ⟨_, rfl, _, rfl, sc, _, rfl, .inl hS, k, _, rfl, rfl, _, rfl, ?_⟩
    refine ite2 (fun hc => ?_) (fun hc => ?_)
    · have hlt : k < ns.length := by
        have := of_decide_eq_true hc
        rwa [len1] at this
      refine ⟨_, rfl, _, rfl, sc, _, _, _, rfl, rfl, hS, atI_nat (j := k) (v := V.int ns[k]) (by simp [hlt]), _, _, rfl, rfl, p0, ?_⟩
      obtain ⟨c, e, lt⟩ := nat_of (n := 2147483629) (mod_lo ns[k] p0) (mod_hi ns[k] p0)
      show Q (V.int (ns[k] % 2147483629)) H
      have ec := cellV_eq hlt e
      have en : cellN ns k = c := by unfold cellN; rw [if_pos hlt]; exact ec
      rw [e]
      rw [en] at q
      exact q
    · have hge : ¬ k < ns.length := fun z => hc (decide_eq_true (by rw [len1]; exact z))
      refine ⟨_, rfl, _, rfl, k, k, rfl, rfl, by omega, k * k, 48271, rfl, rfl, by omega, k * k * 48271, 11, rfl, rfl, ?_⟩
      refine ⟨_, rfl, sc, _, rfl, .inl hS, _, 0, rfl, rfl, _, rfl, ?_⟩
      refine ite2 (fun hc2 => ?_) (fun hc2 => ?_)
      · have hpos : 0 < ns.length := by
          have := of_decide_eq_true hc2
          rwa [len1] at this
        have hj : k % (ns.map V.int).length < ns.length := by rw [len1]; exact Nat.mod_lt _ hpos
        obtain ⟨c, e, lt⟩ := nat_of (n := 2147483629) (mod_lo ns[k % (ns.map V.int).length] p0) (mod_hi ns[k % (ns.map V.int).length] p0)
        refine ⟨_, rfl, _, rfl, _, rfl, _, rfl, sc, _, rfl, .inl hS, k, (ns.map V.int).length, rfl, rfl, by rw [len1]; exact hpos, sc, _, _, _, rfl, rfl, hS, atI_nat (j := k % (ns.map V.int).length) (v := V.int ns[k % (ns.map V.int).length]) (by rw [List.getElem?_map, List.getElem?_eq_getElem hj]; rfl), _, _, rfl, rfl, p0, c, 69621, congrArg V.int e, rfl, by omega, k * k * 48271 + 11, c * 69621, rfl, rfl, ?_⟩
        refine ⟨_, rfl, _, rfl, k * k * 48271 + 11 + c * 69621, k * k * 48271 + 11 + c * 69621, rfl, rfl, by omega, _, 2147483629, rfl, rfl, (by show 0 < 2147483629; decide), ?_⟩
        have en : cellN ns k = (k * k * 48271 + 11 + c * 69621) * (k * k * 48271 + 11 + c * 69621) % 2147483629 := by
          unfold cellN
          rw [if_neg hge, if_pos hpos]
          have ec : cellV ns (k % ns.length) = c := by
            have hj' := hj
            have e' := e
            simp only [len1] at hj' e'
            exact cellV_eq hj' e'
          rw [ec]
        rw [en] at q
        exact q
      · refine ⟨_, rfl, _, rfl, k * k * 48271 + 11, k * k * 48271 + 11, rfl, rfl, by omega, _, 2147483629, rfl, rfl, (by show 0 < 2147483629; decide), ?_⟩
        have hz : ¬ 0 < ns.length := fun z => hc2 (decide_eq_true (by rw [len1]; exact z))
        have en : cellN ns k = (k * k * 48271 + 11) * (k * k * 48271 + 11) % 2147483629 := by
          unfold cellN
          rw [if_neg hge, if_neg hz]
        rw [en] at q
        exact q
noncomputable abbrev sNames : Stmt := top 24
theorem scNames : FnScope ["_law_cell", "_law_count", "_law_letters", "_law_names_here", "_law_text_here", "_law_k", "_law_size", "_law_at", "_law_signs"] ["_law_cell", "_law_count"] (defScope sNames) := ⟨rfl, rfl, rfl, by decide +kernel, rfl, by decide +kernel, by decide +kernel⟩
theorem ok_names {f : Addr} {fd : FuncData} (F : Fun K "_law_names" "_law_names" sNames f fd) (zrange : mg "range" = none) : FnOk P w K mg base CX0 1 f fd ["_law_cell", "_law_count"] spNames80 := by
  refine F.ok scNames (fun vs H Q E h => ?_) (fun cdv A outer s H vs Q E hr h => ?_)
  · obtain ⟨c, n, rfl, _⟩ := h
    rfl
  · obtain ⟨c, n, rfl, n1, n7, q⟩ := h
    have nd := scNames.nd
    refine ⟨_, (pss_cons (ps_set (i := 2) nd rfl (Or.inr rfl) pe_str)
      (pss_cons (ps_set (i := 3) nd rfl (Or.inl rfl) (pe_lst pa_nil))
      (pss_cons (ps_if (pt_cmpR op_eqN (pe_op op_modN' (pv 0) pe_int) pe_int (nomark _)) (pss_cons (ps_set (i := 4) nd rfl (Or.inl rfl) (pe_bm PySem.F.plainAttrs_str PySem.F.slot_str_join PySem.F.type_str_join mt_join pe_str (pa_cons (pe_comp (xs := ["_law_j"]) (cs ["_law_cell", "_law_count", "_law_letters", "_law_names_here", "_law_text_here", "_law_k", "_law_size", "_law_at", "_law_signs"] (defScope sNames) rfl rfl (by decide +kernel)) rfl (pi_range1 rfl zrange (pa_cons pe_int pa_nil)) (fun _ _ _ => pg_name (i := 0) (show (["_law_j", "_law_cell", "_law_count", "_law_letters", "_law_names_here", "_law_text_here", "_law_k", "_law_size", "_law_at", "_law_signs"] : List Str).Nodup by decide +kernel) rfl (Or.inl rfl)) (fun _ _ _ => pts_nil) (fun _ _ _ => (pe_ix ix_str (pv 3) (pe_op op_modN' (pe_op op_addN (pe_op op_fdivN' (pv 1) pe_int) (pe_op op_mulN pe_int (pv 0))) pe_int) (fun _ _ => rfl)))) pa_nil)))
      (pss_cons (ps_for PassesOwn.never rfl (pi_range1 rfl zrange (pa_cons (pv 1) pa_nil)) (pg_name (i := 5) nd rfl (Or.inl rfl)) (pss_one (ps_expr (pe_bm PySem.F.plainAttrs_list PySem.F.slot_list_append PySem.F.type_list_append mt_append (pv 3) (pa_cons (pe_slice sl_str (pv 4) (po_some (pe_op op_modN' (pv 5) pe_int)) (po_some (pe_op op_addN (pe_op op_addN (pe_op op_modN' (pv 5) pe_int) pe_int) (pe_op op_fdivN' (pv 5) pe_int)))) pa_nil)))))
      (pss_one (ps_ret (pv 3))))) pss_nil)
      (pss_cons (ps_set (i := 6) nd rfl (Or.inl rfl) (pe_ix (ix_listK (K := K) rfl) (pe_lst (pa_consC pe_int (pa_consC pe_int (pa_consC pe_int (pa_consC pe_int (pa_consC pe_int (pa_consC pe_int pa_nil))))))) (pe_op op_modN' (pe_op op_fdivN' (pv 0) pe_int) pe_int) (fun _ _ => rfl)))
      (pss_cons (ps_set (i := 7) nd rfl (Or.inl rfl) (pe_op op_modN' (pe_op op_fdivN' (pv 0) pe_int) (pv 6)))
      (pss_cons (ps_for PassesOwn.never rfl (pi_range1 rfl zrange (pa_cons (pv 1) pa_nil)) (pg_name (i := 5) nd rfl (Or.inl rfl)) (pss_cons (ps_comp (i := 8) (xs := ["_law_j"]) (cs ["_law_cell", "_law_count", "_law_letters", "_law_names_here", "_law_text_here", "_law_k", "_law_size", "_law_at", "_law_signs"] (defScope sNames) rfl rfl (by decide +kernel)) rfl nd rfl rfl (pi_range1 rfl zrange (pa_cons (pv 6) pa_nil)) (fun _ _ _ => pg_name (i := 0) (show (["_law_j", "_law_cell", "_law_count", "_law_letters", "_law_names_here", "_law_text_here", "_law_k", "_law_size", "_law_at", "_law_signs"] : List Str).Nodup by decide +kernel) rfl (Or.inl rfl)) (fun _ _ _ => pts_nil) (fun _ _ _ => (pe_ix ix_str (pv 3) (pe_op op_modN' (pe_op op_addN (pe_op op_fdivN' (pv 1) (pe_op op_addN (pv 0) pe_int)) (pe_op op_mulN (pv 0) (pv 0))) pe_int) (fun _ _ => rfl))))
      (pss_cons (ps_asg (pe_ix ix_str (pv 2) (pe_op op_modN' (pe_op op_addN (pe_op op_fdivN' (pv 0) pe_int) (pv 5)) pe_int) (fun _ _ => rfl)) (pg_sub (pv 8) (pv 7) set_list))
      (pss_one (ps_expr (pe_bm PySem.F.plainAttrs_list PySem.F.slot_list_append PySem.F.type_list_append mt_append (pv 3) (pa_cons (pe_bm PySem.F.plainAttrs_str PySem.F.slot_str_join PySem.F.type_str_join mt_join pe_str (pa_cons (pv 8) pa_nil)) pa_nil)))))))
      (pss_one (ps_ret (pv 3))))))))), ?_⟩
    refine ⟨(by show 0 ≤ sizeLine; decide), fun nl hnl => ?_⟩
    have s1 := Same.new (o := .lst []) hnl
    have h1 : (upd H nl (.lst [])) nl = some (.lst []) := upd_same
    generalize upd H nl (.lst []) = H1 at s1 h1
    refine ⟨_, rfl, c, 2, rfl, rfl, (by show 0 < 2; decide), c % 2, 1, rfl, rfl, _, rfl, ite2 (fun hc => ?_) (fun hc => ?_)⟩
    · have hr26 : c / 2 % 26 < 26 := Nat.mod_lt _ (by decide)
      have er : ∀ i, (c / 2 + 3 * i) % 26 = (c / 2 % 26 + 3 * i) % 26 := fun i => by omega
      generalize c / 2 % 26 = r at hr26 er
      refine ⟨rfl, 8, rfl, by decide, by decide, lc_rangeN (k := 8) (fun i acc H' => H' = H1 ∧ acc = (((oddL r).take i).map sng).map V.str) (by decide) ⟨rfl, rfl⟩ (fun i acc H' hi h => ?_) (fun i acc H' hi h => ?_) (fun acc H' h => ?_)⟩
      · obtain ⟨rfl, rfl⟩ := h
        rw [List.length_map, List.length_map]
        exact List.length_take_le _ _
      · obtain ⟨rfl, rfl⟩ := h
        refine ⟨rfl, _, rfl, _, rfl, c, 2, rfl, rfl, ⟨by decide, by decide⟩, _, rfl, 3, i, rfl, rfl, (by show 3 < 2 ^ 64; decide), c / 2, 3 * i, rfl, rfl, c / 2 + 3 * i, 26, rfl, rfl, (by show 0 < 26; decide), letS, _, _, rfl, rfl, let_size, atI_nat (let_at _ (Nat.mod_lt _ (by decide))), rfl, ?_⟩
        rw [List.take_succ, oddL_at hi, er, List.map_append, List.map_append]
        rfl
      obtain ⟨rfl, rfl⟩ := h
      intro jl hjl
      have s2 := s1.trans (Same.new (o := .lst ((((oddL r).take 8).map sng).map V.str)) hjl)
      have hj : (upd H' jl (.lst ((((oddL r).take 8).map sng).map V.str))) jl = some (.lst (((oddL r).map sng).map V.str)) := by rw [upd_same]; rfl
      have h2 := (Same.new (o := .lst ((((oddL r).take 8).map sng).map V.str)) hjl) _ _ h1
      generalize upd H' jl (.lst ((((oddL r).take 8).map sng).map V.str)) = H2 at s2 hj h2
      refine ⟨noS, jl, (oddL r).map sng, rfl, rfl, SqL.of hj, sng_ok _ (by unfold oddL; rw [List.length_map, List.length_range]; decide), ?_⟩
      have e : Txt.join noS ((oddL r).map sng) = oddT r := by rw [join_eq]; exact join_sng _
      rw [e]
      have lo : (oddT r).length = 8 := by show (oddL r).toArray.size = 8; unfold oddL; rw [List.size_toArray, List.length_map, List.length_range]
      refine ⟨_, rfl, (n : Int), rfl, by omega, by omega, for_rangeN (n := n) (fun i σ H' => (∃ v5, σ = [some (vN c), some (vN n), some (.str letS), some (.ref nl), some (.str (oddT r)), v5, none, none, none]) ∧ Same H H' ∧ H' nl = some (.lst ((oddN r i).map V.str))) ⟨⟨_, rfl⟩, s2, h2⟩ ?_ ?_⟩
      · rintro i σ H' hi ⟨⟨v5, rfl⟩, s3, h3⟩
        refine ⟨_, rfl, .inl ⟨rfl, _, SqL.of h3⟩, _, rfl, _, rfl, i, 5, rfl, rfl, (by show 0 < 5; decide), _, rfl, _, rfl, i, 5, rfl, rfl, (by show 0 < 5; decide), i % 5, 1, rfl, rfl, _, rfl, i, 5, rfl, rfl, ⟨by decide, by decide⟩, i % 5 + 1, i / 5, rfl, rfl, _, rfl, oddT r, rfl, by omega, nl, _, _, rfl, rfl, h3, small1000 (by unfold oddN; rw [List.length_map, List.length_map, List.length_range]; omega), ?_⟩
        refine ⟨⟨_, rfl⟩, s3.over hnl, ?_⟩
        rw [upd_same, oddN_snoc, List.map_append]
        rfl
      · rintro σ H' ⟨⟨v5, rfl⟩, s3, h3⟩
        exact ⟨_, rfl, q (oddN r n) nl H' (chk_nm (odd_nm r hr26 n (by omega) n1)) (odd_nw hr26 n7) (by unfold oddN; rw [List.length_map, List.length_range]) s3 hnl h3⟩
    · obtain ⟨z, ez, z1, z8, z4, z6⟩ := sizes6b (c / 2 % 6) (Nat.mod_lt _ (by decide))
      refine ⟨(by show 6 ≤ sizeLine; decide), fun g hg => ?_⟩
      have s2 := s1.trans (Same.new (o := .lst [V.int 1, V.int 2, V.int 3, V.int 5, V.int 7, V.int 8]) hg)
      have hg2 : (upd H1 g (.lst [V.int 1, V.int 2, V.int 3, V.int 5, V.int 7, V.int 8])) g = some (.lst [V.int 1, V.int 2, V.int 3, V.int 5, V.int 7, V.int 8]) := upd_same
      have h2 := (Same.new (o := .lst [V.int 1, V.int 2, V.int 3, V.int 5, V.int 7, V.int 8]) hg) _ _ h1
      generalize upd H1 g (.lst [V.int 1, V.int 2, V.int 3, V.int 5, V.int 7, V.int 8]) = H2 at s2 hg2 h2
      refine ⟨_, rfl, c, 2, rfl, rfl, ⟨by decide, by decide⟩, c / 2, 6, rfl, rfl, (by show 0 < 6; decide), g, _, _, _, rfl, rfl, SqL.of hg2, atI_nat ez, ?_⟩
      refine ⟨_, rfl, c, 12, rfl, rfl, ⟨by decide, by decide⟩, _, rfl, c / 12, z, rfl, rfl, z1, ?_⟩
      have hat : c / 12 % z < z := Nat.mod_lt _ z1
      dsimp (config := { proj := false, iota := false }) only
      generalize c / 12 % z = at_ at hat
      refine ⟨_, rfl, (n : Int), rfl, by omega, by omega, for_rangeN (n := n) (fun i σ H' => (∃ v5 v8, σ = [some (vN c), some (vN n), some (.str letS), some (.ref nl), none, v5, some (vN z), some (vN at_), v8]) ∧ Same H H' ∧ H' nl = some (.lst ((evN c z at_ i).map V.str))) ⟨⟨_, _, rfl⟩, s2, h2⟩ ?_ ?_⟩
      · rintro i σ H' hi ⟨⟨v5, v8, rfl⟩, s3, h3⟩
        refine ⟨_, rfl, (z : Int), rfl, by omega, by omega, lc_rangeN (k := z) (fun j acc H4 => H4 = H' ∧ acc = (((evB c z).take j).map sng).map V.str) (by omega) ⟨rfl, rfl⟩ (fun j acc H4 hj h => ?_) (fun j acc H4 hj h => ?_) (fun acc H4 h => ?_)⟩
        · obtain ⟨rfl, rfl⟩ := h
          rw [List.length_map, List.length_map]
          exact List.length_take_le _ _
        · obtain ⟨rfl, rfl⟩ := h
          refine ⟨rfl, _, rfl, _, rfl, _, rfl, j, 1, rfl, rfl, c, j + 1, rfl, rfl, ⟨by omega, by omega⟩, _, rfl, _, rfl, j, j, rfl, rfl, (by show j < 2 ^ 64; omega), c / (j + 1), j * j, rfl, rfl, c / (j + 1) + j * j, 26, rfl, rfl, (by show 0 < 26; decide), letS, _, _, rfl, rfl, let_size, atI_nat (let_at _ (Nat.mod_lt _ (by decide))), rfl, ?_⟩
          rw [List.take_succ, evB_at hj, List.map_append, List.map_append]
          rfl
        obtain ⟨rfl, rfl⟩ := h
        intro sl hsl
        have lb : (evB c z).length = z := by unfold evB; rw [List.length_map, List.length_range]
        have tk : (evB c z).take z = evB c z := List.take_of_length_le (by omega)
        rw [tk]
        have s4 := Same.new (o := .lst (((evB c z).map sng).map V.str)) hsl
        have hs4 : (upd H4 sl (.lst (((evB c z).map sng).map V.str))) sl = some (.lst (((evB c z).map sng).map V.str)) := upd_same
        have h4 := s4 _ _ h3
        have nsl : H sl = none := s3.none hsl
        have nns : nl ≠ sl := ne_of_none h3 hsl
        have s5 := s3.trans s4
        generalize upd H4 sl (.lst (((evB c z).map sng).map V.str)) = H5 at s5 hs4 h4
        refine ⟨_, rfl, _, rfl, c, 96, rfl, rfl, ⟨by decide, by decide⟩, _, rfl, c / 96, i, rfl, rfl, c / 96 + i, 26, rfl, rfl, (by show 0 < 26; decide), letS, _, _, rfl, rfl, let_size, atI_nat (let_at _ (Nat.mod_lt _ (by decide))), _, rfl, _, rfl, sl, _, _, at_, rfl, rfl, hs4, ixN_nat (by rw [List.length_map, List.length_map, lb]; exact hat), ?_⟩
        have ee : (((evB c z).map sng).map V.str).set at_ (V.str ⟨#[97 + (c / 96 + i) % 26]⟩) = ((evL c z at_ i).map sng).map V.str := by
          unfold evL
          rw [List.map_set, List.map_set]; rfl
        rw [ee]
        have s6 := s5.over (o := .lst (((evL c z at_ i).map sng).map V.str)) nsl
        have hs6 : (upd H5 sl (.lst (((evL c z at_ i).map sng).map V.str))) sl = some (.lst (((evL c z at_ i).map sng).map V.str)) := upd_same
        have h6 : (upd H5 sl (.lst (((evL c z at_ i).map sng).map V.str))) nl = some (.lst ((evN c z at_ i).map V.str)) := by rw [upd_ne nns]; exact h4
        generalize upd H5 sl (.lst (((evL c z at_ i).map sng).map V.str)) = H6 at s6 hs6 h6
        refine ⟨_, rfl, .inl ⟨rfl, _, SqL.of h6⟩, rfl, _, rfl, noS, sl, (evL c z at_ i).map sng, rfl, rfl, SqL.of hs6, sng_ok _ (by rw [ev_len]; omega), ?_⟩
        have e : Txt.join noS ((evL c z at_ i).map sng) = evS c z at_ i := by rw [join_eq]; exact join_sng _
        rw [e]
        refine ⟨nl, _, _, rfl, rfl, h6, small1000 (by unfold evN; rw [List.length_map, List.length_map, List.length_range]; omega), ?_⟩
        refine ⟨⟨_, _, rfl⟩, s6.over hnl, ?_⟩
        rw [upd_same, evN_snoc, List.map_append]
        rfl
      · rintro σ H' ⟨⟨v5, v8, rfl⟩, s3, h3⟩
        exact ⟨_, rfl, q (evN c z at_ n) nl H' (ev_nm hat z8 n1 n7) (ev_nw z4 z6) (by unfold evN; rw [List.length_map, List.length_range]) s3 hnl h3⟩
noncomputable abbrev sMkRule : Stmt := top 25
theorem scMkRule : FnScope ["_law_cell", "_law_many", "_law_full", "_law_left", "_law_right"] ["_law_cell", "_law_many"] (defScope sMkRule) := ⟨rfl, rfl, rfl, by decide +kernel, rfl, by decide +kernel, by decide +kernel⟩
theorem ok_mkrule {f : Addr} {fd : FuncData} (F : Fun K "_law_rule" "_law_rule" sMkRule f fd) : FnOk P w K mg base CX0 1 f fd ["_law_cell", "_law_many"] spMkRule := by
  refine F.ok scMkRule (fun vs H Q E h => ?_) (fun cdv A outer s H vs Q E hr h => ?_)
  · obtain ⟨c, m, rfl, _⟩ := h
    rfl
  · obtain ⟨c, m, rfl, hc, m1, m7, q⟩ := h
    have nd := scMkRule.nd
    have pw0 : 0 < 2 ^ m := Nat.two_pow_pos m
    refine ⟨_, (pss_cons (ps_set (i := 2) nd rfl (Or.inl rfl) (pe_op op_shl1 pe_int (pv 1))) (pss_cons (ps_set (i := 3) nd rfl (Or.inl rfl) (pe_op op_modN' (pe_op op_fdivN' (pv 0) pe_int) (pv 2))) (pss_cut (fun σ H' => H' = H ∧ ∃ l, l < 2 ^ m ∧ σ = [some (vN c), some (vN m), some (vN (2 ^ m)), some (vN l), none]) (ps_if (pt_cmpR op_gtN (pe_op op_modN' (pe_op op_fdivN' (pv 0) pe_int) pe_int) pe_int (nomark _)) (pss_one (ps_set (i := 3) nd rfl (Or.inl rfl) (pe_op op_andN (pv 3) (pe_op op_modN' (pe_op op_fdivN' (pv 0) pe_int) (pv 2))))) pss_nil) (pss_cons (ps_set (i := 4) nd rfl (Or.inl rfl) (pe_op op_modN' (pe_op op_fdivN' (pv 0) pe_int) (pv 2))) (pss_cut (fun σ H' => H' = H ∧ ∃ l r, l < 2 ^ m ∧ r < 2 ^ m ∧ σ = [some (vN c), some (vN m), some (vN (2 ^ m)), some (vN l), some (vN r)]) (ps_if (pt_cmpR op_eqN (pe_op op_modN' (pe_op op_fdivN' (pv 0) pe_int) pe_int) pe_int (nomark _)) (pss_one (ps_set (i := 4) nd rfl (Or.inl rfl) (pe_op op_andN (pv 4) (pe_op op_modN' (pe_op op_modN' (pe_op op_mulN (pv 0) pe_int) pe_int) (pv 2))))) pss_nil) (pss_one (ps_ret (pe_tup (pa_cons (pe_ix (ix_listK (K := K) rfl) (pe_lst (pa_cons pe_str (pa_cons pe_str (pa_cons pe_str pa_nil)))) (pe_op op_modN' (pv 0) pe_int) (fun _ _ => rfl)) (pa_cons (pv 3) (pa_cons (pv 4) pa_nil))))))))))), ?_⟩
    refine ⟨_, rfl, m, rfl, rfl, by omega, ?_⟩
    refine ⟨_, rfl, c, 3, rfl, rfl, ⟨by decide, by decide⟩, _, rfl, c / 3, 2 ^ m, rfl, rfl, pw0, ?_⟩
    refine ⟨⟨_, rfl, c, 384, rfl, rfl, ⟨by decide, by decide⟩, c / 384, 4, rfl, rfl, (by show 0 < 4; decide), _, 0, rfl, rfl, _, rfl, ite2 (fun _ => ?_) (fun _ => ?_)⟩, ?_⟩
    · refine ⟨_, rfl, _, rfl, c, 1536, rfl, rfl, ⟨by decide, by decide⟩, _, rfl, c / 1536, 2 ^ m, rfl, rfl, pw0, c / 3 % 2 ^ m, _, rfl, rfl, ?_⟩
      exact ⟨rfl, _, Nat.lt_of_le_of_lt Nat.and_le_left (Nat.mod_lt _ pw0), rfl⟩
    · exact ⟨rfl, _, Nat.mod_lt _ pw0, rfl⟩
    rintro _ _ ⟨rfl, l, hl, rfl⟩
    refine ⟨_, rfl, c, 196608, rfl, rfl, ⟨by decide, by decide⟩, _, rfl, c / 196608, 2 ^ m, rfl, rfl, pw0, ?_⟩
    refine ⟨⟨_, rfl, c, 25165824, rfl, rfl, ⟨by decide, by decide⟩, c / 25165824, 3, rfl, rfl, (by show 0 < 3; decide), _, 1, rfl, rfl, _, rfl, ite2 (fun _ => ?_) (fun _ => ?_)⟩, ?_⟩
    · refine ⟨_, rfl, _, rfl, c, 16807, rfl, rfl, by omega, c * 16807, 65537, rfl, rfl, (by show 0 < 65537; decide), _, rfl, c * 16807 % 65537, 2 ^ m, rfl, rfl, pw0, c / 196608 % 2 ^ m, _, rfl, rfl, ?_⟩
      exact ⟨rfl, _, _, hl, Nat.lt_of_le_of_lt Nat.and_le_left (Nat.mod_lt _ pw0), rfl⟩
    · exact ⟨rfl, _, _, hl, Nat.mod_lt _ pw0, rfl⟩
    rintro _ _ ⟨rfl, l, r, hl, hr', rfl⟩
    refine ⟨(by show 3 ≤ sizeLine; decide), fun g hg => ?_⟩
    obtain ⟨sb, esb⟩ : ∃ sb : Bool, ([V.str "settle", V.str "settle", V.str "deal"] : List V)[c % 3]? = some (V.str (wordS sb)) := by
      have h3 : c % 3 < 3 := Nat.mod_lt _ (by decide)
      match c % 3, h3 with
      | 0, _ => exact ⟨true, rfl⟩
      | 1, _ => exact ⟨true, rfl⟩
      | 2, _ => exact ⟨false, rfl⟩
    refine ⟨_, rfl, c, 3, rfl, rfl, (by show 0 < 3; decide), g, _, _, _, rfl, rfl, SqL.of upd_same, atI_nat esb, _, rfl, _, rfl, (by show 3 ≤ sizeLine; decide), fun t ht => ?_⟩
    have s1 := Same.new (o := .lst [V.str "settle", V.str "settle", V.str "deal"]) hg
    have s2 := Same.new (o := .tup [V.str (wordS sb), vN l, vN r]) ht
    refine q sb l r t _ hl hr' (s1.trans s2) ?_ upd_same
    by_cases e : t = g
    · rw [e]; exact hg
    · rw [upd_ne e] at ht; exact ht
section
noncomputable abbrev sLRules : Stmt := top 26
theorem scLRules : FnScope ["_law_script", "_law_many", "_law_count"] ["_law_script", "_law_many"] (defScope sLRules) := ⟨rfl, rfl, rfl, by decide +kernel, rfl, by decide +kernel, by decide +kernel⟩
theorem ok_lrules {f fCA fRU : Addr} {fd fdCA fdRU : FuncData} (F : Fun K "_law_rules" "_law_rules" sLRules f fd) (GCA : FnOk P w K mg base CX0 1 fCA fdCA ["_law_script", "_law_k"] (spCellAt K)) (mCA : mg "_law_cell_at" = some (.ref fCA)) (kCA : PySem.W.keepIn K (.ref fCA) = true) (bCA : Binds K fdCA ["_law_script", "_law_k"] []) (GRU : FnOk P w K mg base CX0 1 fRU fdRU ["_law_cell", "_law_many"] spMkRule) (mRU : mg "_law_rule" = some (.ref fRU)) (kRU : PySem.W.keepIn K (.ref fRU) = true) (bRU : Binds K fdRU ["_law_cell", "_law_many"] []) (zrange : mg "range" = none) : FnOk P w K mg base CX0 2 f fd ["_law_script", "_law_many"] (spLRul12 K) := by
  refine F.ok scLRules (fun vs H Q E h => ?_) (fun cdv A outer s H vs Q E hr h => ?_)
  · obtain ⟨sc, ns, m, rfl, _⟩ := h
    rfl
  · obtain ⟨sc, ns, m, rfl, hS, m1, m7, q⟩ := h
    have nd := scLRules.nd
    have hr1 : Room 1 _ := hr.mono (by decide)
    refine ⟨_, (pss_cons (ps_set (i := 2) nd rfl (Or.inl rfl) (pe_ix (ix_listK (K := K) rfl) (pe_lst (pa_consC pe_int (pa_consC pe_int (pa_consC pe_int (pa_consC pe_int (pa_consC pe_int (pa_consC pe_int (pa_consC pe_int (pa_consC pe_int (pa_consC pe_int pa_nil)))))))))) (pe_op op_modN' (pe_call GCA hr1 rfl mCA kCA bCA .nil pass0 (pa_cons (pv 0) (pa_cons pe_int pa_nil))) pe_int) (fun _ _ => rfl)))
      (pss_one (ps_ret (pe_comp (xs := ["_law_k"]) (cs ["_law_script", "_law_many", "_law_count"] (defScope sLRules) rfl rfl (by decide +kernel)) rfl (pi_range1 rfl zrange (pa_cons (pv 2) pa_nil)) (fun _ _ _ => pg_name (i := 0) (show (["_law_k", "_law_script", "_law_many", "_law_count"] : List Str).Nodup by decide +kernel) rfl (Or.inl rfl)) (fun _ _ _ => pts_nil) (fun _ _ _ => (pe_call GRU hr1 rfl mRU kRU bRU .nil pass0 (pa_cons (pe_call GCA hr1 rfl mCA kCA bCA .nil pass0 (pa_cons (pv 1) (pa_cons (pe_op op_addN pe_int (pv 0)) pa_nil))) (pa_cons (pv 2) pa_nil)))))))), ?_⟩
    refine ⟨(by show 9 ≤ sizeLine; decide), fun g hg => ?_⟩
    have s1 := Same.new (o := .lst [vN 3, vN 4, vN 5, vN 6, vN 8, vN 2, vN 1, vN 0, vN 12]) hg
    refine ⟨_, rfl, sc, ns, 1, rfl, s1.seq hS, by omega, fun c hc => ?_⟩
    obtain ⟨n, en, hn⟩ : ∃ n : Nat, ([vN 3, vN 4, vN 5, vN 6, vN 8, vN 2, vN 1, vN 0, vN 12] : List V)[c % 9]? = some (vN n) ∧ n ≤ 12 := by
      have h9 : c % 9 < 9 := Nat.mod_lt _ (by decide)
      match c % 9, h9 with
      | 0, _ => exact ⟨3, rfl, by decide⟩
      | 1, _ => exact ⟨4, rfl, by decide⟩
      | 2, _ => exact ⟨5, rfl, by decide⟩
      | 3, _ => exact ⟨6, rfl, by decide⟩
      | 4, _ => exact ⟨8, rfl, by decide⟩
      | 5, _ => exact ⟨2, rfl, by decide⟩
      | 6, _ => exact ⟨1, rfl, by decide⟩
      | 7, _ => exact ⟨0, rfl, by decide⟩
      | 8, _ => exact ⟨12, rfl, by decide⟩
    refine ⟨c, 9, rfl, rfl, (by show 0 < 9; decide), g, _, _, _, rfl, rfl, SqL.of upd_same, atI_nat en, ?_⟩
    refine ⟨_, rfl, (n : Int), rfl, by omega, by omega, lc_rangeN (k := n) (n := 1) (fun i acc H' => ∃ rs : List Rl, acc = (rs.map fun r => V.ref r.r) ∧ rs.length = i ∧ RulesAt H' m rs ∧ Same H H') (by omega) ⟨[], rfl, rfl, (fun r h => absurd h List.not_mem_nil), s1⟩ (fun i acc H' hi h => ?_) (fun i acc H' hi h => ?_) (fun acc H' h => ?_)⟩
    · obtain ⟨rs, rfl, e, _⟩ := h
      rw [List.length_map, e]; exact Nat.le_refl _
    · obtain ⟨rs, rfl, e, hRs, s'⟩ := h
      refine ⟨rfl, _, rfl, _, rfl, 4, i, rfl, rfl, sc, ns, 4 + i, rfl, s'.seq hS, by omega, fun c1 hc1 => ⟨_, rfl, c1, m, rfl, by omega, m1, m7, fun st x y r H1 hx hy s2 hr2 hR2 => ?_⟩⟩
      refine ⟨rs ++ [⟨r, st, x, y⟩], by rw [List.map_append]; rfl, by rw [List.length_append, e]; rfl, fun v hv => ?_, s'.trans s2⟩
      rcases List.mem_append.mp hv with hv | hv
      · exact ⟨s2 _ _ (hRs v hv).1, (hRs v hv).2⟩
      · rw [List.mem_singleton.mp hv]; exact ⟨hR2, hx, hy⟩
    · obtain ⟨rs, rfl, e, hRs, s'⟩ := h
      intro p hp
      exact q rs p _ (hRs.same (Same.new hp)) (by omega) (s'.trans (Same.new hp)) (s'.none hp) upd_same
end
end
end Own

namespace Own
open PySem L2
section
variable {P : Program} {w : World} {K : PySem.W.Frag} {mg : Str → Option Value} {base : Heap}
seal PySem.wpAny
noncomputable abbrev sTable : Stmt := top 27
theorem scTable : FnScope ["_law_script", "_law_most", "_law_many", "_law_names_here", "_law_rules_here", "_law_word", "_law_left", "_law_right"] ["_law_script", "_law_most"] (defScope sTable) := ⟨rfl, rfl, rfl, by decide +kernel, rfl, by decide +kernel, by decide +kernel⟩
theorem ok_table {f fCA fNA fLR : Addr} {fd fdCA fdNA fdLR : FuncData} (F : Fun K "_law_table" "_law_table" sTable f fd) (GCA : FnOk P w K mg base CX0 1 fCA fdCA ["_law_script", "_law_k"] (spCellAt K)) (mCA : mg "_law_cell_at" = some (.ref fCA)) (kCA : PySem.W.keepIn K (.ref fCA) = true) (bCA : Binds K fdCA ["_law_script", "_law_k"] []) (GNA : FnOk P w K mg base CX0 1 fNA fdNA ["_law_cell", "_law_count"] spNames80) (mNA : mg "_law_names" = some (.ref fNA)) (kNA : PySem.W.keepIn K (.ref fNA) = true) (bNA : Binds K fdNA ["_law_cell", "_law_count"] []) (GLR : FnOk P w K mg base CX0 2 fLR fdLR ["_law_script", "_law_many"] (spLRul12 K)) (mLR : mg "_law_rules" = some (.ref fLR)) (kLR : PySem.W.keepIn K (.ref fLR) = true) (bLR : Binds K fdLR ["_law_script", "_law_many"] []) : FnOk P w K mg base CX0 3 f fd ["_law_script", "_law_most"] (spTable80 K) := by
  refine F.ok scTable (fun vs H Q E h => ?_) (fun cdv A outer s H vs Q E hr h => ?_)
  · obtain ⟨sc, ns, rfl, _⟩ := h
    rfl
  · obtain ⟨sc, ns, rfl, hS, q⟩ := h
    have nd := scTable.nd
    have hr1 : Room 1 _ := hr.mono (by decide)
    have hr2 : Room 2 _ := hr.mono (by decide)
    refine ⟨_, (pss_cons (ps_set (i := 2) nd rfl (Or.inl rfl) (pe_op op_addN pe_int (pe_op op_modN' (pe_call GCA hr1 rfl mCA kCA bCA .nil pass0 (pa_cons (pv 0) (pa_cons pe_int pa_nil))) (pv 1))))
      (pss_cons (ps_set (i := 3) nd rfl (Or.inl rfl) (pe_call GNA hr1 rfl mNA kNA bNA .nil pass0 (pa_cons (pe_call GCA hr1 rfl mCA kCA bCA .nil pass0 (pa_cons (pv 0) (pa_cons pe_int pa_nil))) (pa_cons (pv 2) pa_nil))))
      (pss_cons (ps_set (i := 4) nd rfl (Or.inl rfl) (pe_lst pa_nil))
      (pss_cons (ps_for PassesOwn.never rfl (pi_listK (K := K) rfl (pe_call GLR hr2 rfl mLR kLR bLR .nil pass0 (pa_cons (pv 0) (pa_cons (pv 2) pa_nil)))) (pg_tup rfl (pgs_cons (pg_name (i := 5) nd rfl (Or.inl rfl)) (pgs_cons (pg_name (i := 6) nd rfl (Or.inl rfl)) (pgs_cons (pg_name (i := 7) nd rfl (Or.inl rfl)) pgs_nil)))) (pss_cons (ps_if (pt_cmpR op_eqN (pv 7) pe_int (nomark _)) (pss_one (ps_set (i := 7) nd rfl (Or.inl rfl) (pe_op op_shl1 pe_int (pe_op op_modN' (pv 6) (pv 2))))) pss_nil)
      (pss_one (ps_expr (pe_bm PySem.F.plainAttrs_list PySem.F.slot_list_append PySem.F.type_list_append mt_append (pv 4) (pa_cons (pe_tup (pa_cons (pv 5) (pa_cons (pv 6) (pa_cons (pv 7) pa_nil)))) pa_nil))))))
      (pss_one (ps_ret (pe_tup (pa_cons (pv 3) (pa_cons (pv 4) pa_nil))))))))), ?_⟩
    refine ⟨_, rfl, sc, ns, 0, rfl, hS, by omega, fun c0 hc0 => ⟨_, rfl, c0, 7, rfl, rfl, (by show 0 < 7; decide), 1, c0 % 7, rfl, rfl, ?_⟩⟩
    have m1 : 1 ≤ 1 + c0 % 7 := by omega
    have m7 : 1 + c0 % 7 ≤ 7 := by omega
    dsimp (config := { proj := false, iota := false }) only
    generalize 1 + c0 % 7 = m at m1 m7
    refine ⟨_, rfl, sc, ns, 3, rfl, hS, by omega, fun c3 hc3 => ⟨_, rfl, c3, m, rfl, m1, m7, fun nms nl H1 NN NNW en s1 hnl0 hnl => ?_⟩⟩
    subst en
    refine ⟨(by show 0 ≤ sizeLine; decide), fun rl hrl0 => ?_⟩
    have s2 := Same.new (o := .lst []) hrl0
    have hrl : (upd H1 rl (.lst [])) rl = some (.lst (([] : List Rl).map fun (r : Rl) => V.ref r.r)) := upd_same
    have hnl2 := s2 _ _ hnl
    have nrl : H rl = none := s1.none hrl0
    have nnr : nl ≠ rl := ne_of_none hnl hrl0
    replace s2 := s1.trans s2
    generalize upd H1 rl (.lst []) = H2 at s2 hrl hnl2
    refine ⟨_, rfl, _, rfl, sc, ns, nms.length, rfl, s2.seq hS, m1, m7, fun rs p H3 hR l12 s3 hp0 hp => ?_⟩
    have hrl3 := s3 _ _ hrl
    have hnl3 := s3 _ _ hnl2
    have npr : p ≠ rl := fun z => by rw [z, hrl] at hp0; cases hp0
    have nrr : ∀ r ∈ rs, r.r ≠ rl := fun r hr' z => by
      have := (hR r hr').1
      unfold RuleAt at this
      rw [z, hrl3] at this
      cases this
    replace s3 := s2.trans s3
    have lr : (rs.map fun (r : Rl) => V.ref r.r).length = rs.length := List.length_map ..
    refine ⟨p, rfl, ⟨_, SqL.of hp⟩, for_list (K := K) (xs := rs.map fun (r : Rl) => V.ref r.r) (fun i σ H' => (∃ v5 v6 v7, σ = [some (.ref sc), some (vN 7), some (vN nms.length), some (.ref nl), some (.ref rl), v5, v6, v7]) ∧ But rl H3 H' ∧ Same H H' ∧ ∃ ks : List Rl, ks.length = i ∧ RulesAt H' nms.length ks ∧ (∀ r ∈ ks, r.y ≠ 0 ∧ r.r ≠ rl) ∧ H' rl = some (.lst (ks.map fun (r : Rl) => V.ref r.r))) ⟨⟨_, _, _, rfl⟩, But.refl _ _, s3, [], rfl, (fun r h => absurd h List.not_mem_nil), (fun r h => absurd h List.not_mem_nil), hrl3⟩ (fun i σ H' _ h => SqL.of (h.2.1 _ _ hp npr)) ?_ ?_⟩
    · rintro i v σ H4 hv ⟨⟨v5, v6, v7, rfl⟩, B4, s4, ks, lk, hK, hne, hrl4⟩
      rw [List.getElem?_map] at hv
      cases ec : rs[i]? with
      | none => rw [ec] at hv; cases hv
      | some r =>
        rw [ec] at hv
        obtain rfl := (Option.some.inj hv).symm
        have hm := List.mem_of_getElem? ec
        have hi : i < rs.length := (List.getElem?_eq_some_iff.mp ec).1
        have hr4 : RuleAt H4 r.r r.st r.x r.y := B4 _ _ (hR r hm).1 (nrr r hm)
        have hxm := (hR r hm).2
        refine ⟨r.r, _, rfl, SqT.of hr4, rfl, _, _, rfl, _, _, rfl, _, _, rfl, rfl, ?_⟩
        refine ⟨_, rfl, r.y, 0, rfl, rfl, _, rfl, ite2 (fun hc => ?A) (fun hc => ?B)⟩
        case' A =>
          refine ⟨_, rfl, _, rfl, r.x, nms.length, rfl, rfl, m1, r.x % nms.length, rfl, rfl, (by have := Nat.mod_lt r.x m1; omega), ?_⟩
          have hy0 : 2 ^ (r.x % nms.length) ≠ 0 := Nat.ne_of_gt (Nat.two_pow_pos _)
          have hyl : 2 ^ (r.x % nms.length) < 2 ^ nms.length := Nat.pow_lt_pow_right (by decide) (Nat.mod_lt r.x m1)
          dsimp (config := { proj := false, iota := false }) only
          generalize 2 ^ (r.x % nms.length) = y at hy0 hyl
        case' B =>
          have hy0 : r.y ≠ 0 := fun z => hc (decide_eq_true z)
          have hyl := hxm.2
          generalize r.y = y at hy0 hyl
        all_goals
          refine ⟨_, rfl, .inl ⟨rfl, _, SqL.of hrl4⟩, _, rfl, _, rfl, _, rfl, (by show 3 ≤ sizeLine; decide), fun t ht => ?_⟩
          have s5 := Same.new (o := .tup [V.str (wordS r.st), vN r.x, vN y]) ht
          have hrl5 := s5 _ _ hrl4
          have ht5 : (upd H4 t (.tup [V.str (wordS r.st), vN r.x, vN y])) t = some (.tup [V.str (wordS r.st), vN r.x, vN y]) := upd_same
          have ntr : t ≠ rl := (ne_of_none hrl4 ht).symm
          refine ⟨rl, _, _, rfl, rfl, hrl5, small1000 (by rw [List.length_map]; omega), ?_⟩
          generalize upd H4 t (.tup [V.str (wordS r.st), vN r.x, vN y]) = H5 at s5 hrl5 ht5
          refine ⟨⟨_, _, _, rfl⟩, fun b o hb nb => by rw [upd_ne nb]; exact s5 _ _ (B4 b o hb nb), (s4.trans s5).over nrl, ks ++ [⟨t, r.st, r.x, y⟩], by rw [List.length_append, lk]; rfl, fun k hk => ?_, fun k hk => ?_, ?_⟩
          · rcases List.mem_append.mp hk with hk | hk
            · refine ⟨?_, (hK k hk).2⟩
              show upd H5 rl _ k.r = _
              rw [upd_ne (hne k hk).2]
              exact s5 _ _ (hK k hk).1
            · rw [List.mem_singleton.mp hk]
              refine ⟨?_, hxm.1, hyl⟩
              show upd H5 rl _ t = _
              rw [upd_ne ntr]
              exact ht5
          · rcases List.mem_append.mp hk with hk | hk
            · exact hne k hk
            · rw [List.mem_singleton.mp hk]; exact ⟨hy0, ntr⟩
          · rw [upd_same, List.map_append]; rfl
    · rintro σ H4 ⟨⟨v5, v6, v7, rfl⟩, B4, s4, ks, lk, hK, hne, hrl4⟩
      refine ⟨_, rfl, _, rfl, (by show 2 ≤ sizeLine; decide), fun t ht => ?_⟩
      have s5 := Same.new (o := .tup [V.ref nl, V.ref rl]) ht
      exact q t nl rl nms ks _ NN NNW (s4.trans s5) (hK.same s5) (fun r hr' => (hne r hr').1) (by rw [lk, lr]; exact l12) upd_same (s5 _ _ (B4 _ _ hnl3 nnr)) (s5 _ _ hrl4)
end
end Own

namespace Own
open PySem L2
section
variable {P : Program} {w : World} {K : PySem.W.Frag} {mg : Str → Option Value} {base : Heap}
seal PySem.wpAny
noncomputable abbrev sAlike : Stmt := top 31
theorem scAlike : FnScope ["_law_got", "_law_rules_here", "_law_rule_here", "_law_some"] ["_law_got", "_law_rules_here"] (defScope sAlike) := ⟨rfl, rfl, rfl, by decide +kernel, rfl, by decide +kernel, by decide +kernel⟩
theorem ok_alike80 {f : Addr} {fd : FuncData} (F : Fun K "_law_rules_alike" "_law_rules_alike" sAlike f fd) (zisinstance : mg "isinstance" = none) (zlist : mg "list" = none) (ztuple : mg "tuple" = none) (zstr : mg "str" = none) (zint : mg "int" = none) (zbool : mg "bool" = none) : FnOk P w K mg base CX0 1 f fd ["_law_got", "_law_rules_here"] (spAlike80 K) := by
  refine F.ok scAlike (fun vs H Q E h => ?_) (fun cdv A outer s H vs Q E hr h => ?_)
  · obtain ⟨a, b, n, ks, rs, rfl, _⟩ := h
    rfl
  · obtain ⟨a, b, n, ks, rs, rfl, ha, hb, hK, hR, ed, l12, q⟩ := h
    have nd := scAlike.nd
    have lr : (ks.map fun (r : Rl) => V.ref r.r).length = ks.length := List.length_map ..
    refine ⟨_, (pss_cons (ps_if (PW.pt (pw_or (pt_not (pt_val (pe_callB (call_isK (K := K) rfl) (by rfl) zisinstance PyProof.Rows.boot_isinstance (pa_cons (pv 0) (pa_cons (pe_bltn (v := .ty "list") rfl zlist PyProof.Rows.boot_list rfl) pa_nil))))) (pw_or1 (pt_cmpR (op_neD (K := K) rfl hr.units) (pv 0) (pv 1) (nomark _))))) (pss_one (ps_ret pe_bl)) pss_nil)
      (pss_cons (ps_for PassesOwn.never rfl (pi_listK (K := K) rfl (pv 0)) (pg_name (i := 2) nd rfl (Or.inl rfl)) (pss_cons (ps_if (PW.pt (pw_or (pt_not (pt_val (pe_callB (call_isK (K := K) rfl) (by rfl) zisinstance PyProof.Rows.boot_isinstance (pa_cons (pv 2) (pa_cons (pe_bltn (v := .ty "tuple") rfl ztuple PyProof.Rows.boot_tuple rfl) pa_nil))))) (pw_or1 (pt_not (pt_val (pe_callB (call_isK (K := K) rfl) (by rfl) zisinstance PyProof.Rows.boot_isinstance (pa_cons (pe_ix (ix_tupK (K := K) rfl) (pv 2) pe_int (fun _ _ => rfl)) (pa_cons (pe_bltn (v := .ty "str") rfl zstr PyProof.Rows.boot_str rfl) pa_nil)))))))) (pss_one (ps_ret pe_bl)) pss_nil)
      (pss_one (ps_for PassesOwn.never rfl (pi_tupK (K := K) rfl (pe_slice sl_tup (pv 2) (po_some pe_int) po_none)) (pg_name (i := 3) nd rfl (Or.inl rfl)) (pss_one (ps_if (PW.pt (pw_or (pt_not (pt_val (pe_callB (call_isK (K := K) rfl) (by rfl) zisinstance PyProof.Rows.boot_isinstance (pa_cons (pv 3) (pa_cons (pe_bltn (v := .ty "int") rfl zint PyProof.Rows.boot_int rfl) pa_nil))))) (pw_or1 (pt_val (pe_callB (call_isK (K := K) rfl) (by rfl) zisinstance PyProof.Rows.boot_isinstance (pa_cons (pv 3) (pa_cons (pe_bltn (v := .ty "bool") rfl zbool PyProof.Rows.boot_bool rfl) pa_nil))))))) (pss_one (ps_ret pe_bl)) pss_nil))))))
      (pss_one (ps_ret pe_bl)))), ?_⟩
    refine ⟨_, rfl, _, _, _, true, rfl, .lst ha, rfl, _, rfl, iteF ?_⟩
    refine ⟨_, rfl, _, rfl, .list ((ks.map Rl.d).map dR), .list ((rs.map Rl.d).map dR), DV.lst (SqL.of ha) (rules_dv hK), DV.lst hb (rules_dv hR), shaped_map canLay_dR depth_dR _, shaped_map canLay_dR depth_dR _, noMix_list noMix_dR _ _, _, rfl, ?_⟩
    rw [if_pos rfl, same_list same_dR, decide_eq_true ed]
    refine iteF ?_
    refine ⟨_, rfl, a, rfl, ⟨_, SqL.of ha⟩, for_list (K := K) (xs := ks.map fun (r : Rl) => V.ref r.r) (fun i σ H' => (∃ v2 v3, σ = [some (.ref a), some (.ref b), v2, v3]) ∧ Same H H') ⟨⟨_, _, rfl⟩, Same.refl _⟩ (fun i σ H' _ h => SqL.of (h.2 _ _ ha)) ?_ ?_⟩
    · rintro i v σ H1 hv ⟨⟨v2, v3, rfl⟩, s1⟩
      rw [List.getElem?_map] at hv
      cases ec : ks[i]? with
      | none => rw [ec] at hv; cases hv
      | some r =>
        rw [ec] at hv
        obtain rfl := (Option.some.inj hv).symm
        have hr1 : RuleAt H1 r.r r.st r.x r.y := s1 _ _ (hK r (List.mem_of_getElem? ec)).1
        refine ⟨_, rfl, _, _, _, true, rfl, .tup hr1, rfl, _, rfl, iteF ?_⟩
        refine ⟨_, rfl, r.r, _, _, _, rfl, rfl, SqT.of hr1, atI_nat (j := 0) rfl, _, _, _, true, rfl, .str _, rfl, _, rfl, iteF ?_⟩
        refine ⟨_, rfl, ((1 : Nat) : Int), rfl, r.r, _, rfl, SqT.of hr1, (by rintro ⟨z, _⟩; exact absurd (show HT.sIx 3 0 (some ((1 : Nat) : Int)) = 0 from z) (by decide)), fun p hp => ?_⟩
        rw [cut_drop]
        have s2 := s1.trans (Same.new (o := .tup (([V.str (wordS r.st), vN r.x, vN r.y] : List V).drop 1)) hp)
        refine ⟨p, rfl, ⟨_, SqT.of upd_same⟩, for_tup (xs := [vN r.x, vN r.y]) (fun j σ H' => (∃ v3, σ = [some (.ref a), some (.ref b), some (.ref r.r), v3]) ∧ Same H H' ∧ H' p = some (.tup [vN r.x, vN r.y])) ⟨⟨_, rfl⟩, s2, upd_same⟩ (fun j σ H' _ h => SqT.of h.2.2) ?_ ?_⟩
        · rintro j v σ H2 hv ⟨⟨v3, rfl⟩, s3, h3⟩
          obtain ⟨k, rfl⟩ : ∃ k : Nat, v = vN k := by
            match j, hv with
            | 0, hv => exact ⟨r.x, (Option.some.inj hv).symm⟩
            | 1, hv => exact ⟨r.y, (Option.some.inj hv).symm⟩
            | j + 2, hv => cases hv
          refine ⟨_, rfl, _, _, _, true, rfl, .int _, rfl, _, rfl, iteF ?_⟩
          refine ⟨_, rfl, _, _, _, false, rfl, .int _, rfl, _, rfl, iteF ?_⟩
          exact ⟨⟨_, rfl⟩, s3, h3⟩
        · rintro σ H2 ⟨⟨v3, rfl⟩, s3, h3⟩
          exact ⟨⟨_, _, rfl⟩, s3⟩
    · rintro σ H1 ⟨⟨v2, v3, rfl⟩, s1⟩
      exact q _ s1
end
end Own

namespace Own
open PySem L2
section
variable {P : Program} {w : World} {K : PySem.W.Frag} {mg : Str → Option Value} {base : Heap}
seal PySem.wpAny
noncomputable def spLaw (K : PySem.W.Frag) : Sp := fun vs H Q _ => ∃ (a : Addr) (ns : List Int), vs = [.ref a] ∧ SqF K H a ns ∧ ns.length ≤ 63 ∧ ∀ H', Q (.bl true) H'
noncomputable abbrev sLaw : Stmt := top 32
theorem scLaw : FnScope ["_law_script", "_law_names_here", "_law_rules_here", "_law_text_here", "_law_k", "_law_got", "_law_handed", "_law_told"] ["_law_script"] (defScope sLaw) := ⟨rfl, rfl, rfl, by decide +kernel, rfl, by decide +kernel, by decide +kernel⟩
theorem ok_law {f fTB fLT fRE fRA fSH : Addr} {fd fdTB fdLT fdRE fdRA fdSH : FuncData} (F : Fun K "law" "law" sLaw f fd) (GTB : FnOk P w K mg base CX0 3 fTB fdTB ["_law_script", "_law_most"] (spTable80 K)) (mTB : mg "_law_table" = some (.ref fTB)) (kTB : PySem.W.keepIn K (.ref fTB) = true) (bTB : Binds K fdTB ["_law_script", "_law_most"] []) (GLT : FnOk P w K mg base CX0 3 fLT fdLT ["_law_names_here", "_law_rules_here"] (spShown K)) (mLT : mg "_law_text" = some (.ref fLT)) (kLT : PySem.W.keepIn K (.ref fLT) = true) (bLT : Binds K fdLT ["_law_names_here", "_law_rules_here"] []) (GRE : FnOk P w K mg base CX0 4 fRE fdRE ["text"] spRead0) (mRE : mg "read" = some (.ref fRE)) (kRE : PySem.W.keepIn K (.ref fRE) = true) (bRE : Binds K fdRE ["text"] []) (GRA : FnOk P w K mg base CX0 1 fRA fdRA ["_law_got", "_law_rules_here"] (spAlike80 K)) (mRA : mg "_law_rules_alike" = some (.ref fRA)) (kRA : PySem.W.keepIn K (.ref fRA) = true) (bRA : Binds K fdRA ["_law_got", "_law_rules_here"] []) (GSH : FnOk P w K mg base CX0 5 fSH fdSH ["names", "rules"] (spShown K)) (mSH : mg "shown" = some (.ref fSH)) (kSH : PySem.W.keepIn K (.ref fSH) = true) (bSH : Binds K fdSH ["names", "rules"] []) (zisinstance : mg "isinstance" = none) (ztuple : mg "tuple" = none) (zlist : mg "list" = none) (zlen : mg "len" = none) (zrange : mg "range" = none) (zstr : mg "str" = none) : FnOk P w K mg base CX0 6 f fd ["_law_script"] (spLaw K) := by
  refine F.ok scLaw (fun vs H Q E h => ?_) (fun cdv A outer s H vs Q E hr h => ?_)
  · obtain ⟨a, ns, rfl, _⟩ := h
    rfl
  · obtain ⟨a, ns, rfl, hS, hlen, q⟩ := h
    have nd := scLaw.nd
    have hr1 : Room 1 _ := hr.mono (by decide)
    have hr3 : Room 3 _ := hr.mono (by decide)
    have hr4 : Room 4 _ := hr.mono (by decide)
    have hr5 : Room 5 _ := hr.mono (by decide)
    refine ⟨_, (pss_cons (ps_asg (pe_call GTB hr3 rfl mTB kTB bTB .nil pass0 (pa_cons (pv 0) (pa_cons pe_int pa_nil))) (pg_tup rfl (pgs_cons (pg_name (i := 1) nd rfl (Or.inl rfl)) (pgs_cons (pg_name (i := 2) nd rfl (Or.inl rfl)) pgs_nil))))
      (pss_cons (ps_set (i := 3) nd rfl (Or.inl rfl) (pe_call GLT hr3 rfl mLT kLT bLT .nil pass0 (pa_cons (pv 1) (pa_cons (pv 2) pa_nil))))
      (pss_cons (ps_for PassesOwn.never rfl (pi_range1 rfl zrange (pa_cons pe_int pa_nil)) (pg_name (i := 4) nd rfl (Or.inl rfl)) (pss_cons (ps_set (i := 5) nd rfl (Or.inl rfl) (pe_call GRE hr4 rfl mRE kRE bRE .nil pass0 (pa_cons (pv 3) pa_nil)))
      (pss_cons (ps_if (PW.pt (pw_or (pt_not (pt_val (pe_callB (call_isK (K := K) rfl) (by rfl) zisinstance PyProof.Rows.boot_isinstance (pa_cons (pv 5) (pa_cons (pe_bltn (v := .ty "tuple") rfl ztuple PyProof.Rows.boot_tuple rfl) pa_nil))))) (pw_or (pt_cmpR op_neN (pe_callB (call_lenK (K := K) rfl) (by rfl) zlen PySem.boot_len (pa_cons (pv 5) pa_nil)) pe_int (nomark _)) (pw_or (pt_not (pt_val (pe_callB (call_isK (K := K) rfl) (by rfl) zisinstance PyProof.Rows.boot_isinstance (pa_cons (pe_ix (ix_tupK (K := K) rfl) (pv 5) pe_int (fun _ _ => rfl)) (pa_cons (pe_bltn (v := .ty "list") rfl zlist PyProof.Rows.boot_list rfl) pa_nil))))) (pw_or1 (pt_cmpR (op_neD (K := K) rfl hr.units) (pe_ix (ix_tupK (K := K) rfl) (pv 5) pe_int (fun _ _ => rfl)) (pv 1) (nomark _))))))) (pss_one (ps_ret pe_bl)) pss_nil)
      (pss_cons (ps_if (pt_not (pt_val (pe_call GRA hr1 rfl mRA kRA bRA .nil pass0 (pa_cons (pe_ix (ix_tupK (K := K) rfl) (pv 5) pe_int (fun _ _ => rfl)) (pa_cons (pv 2) pa_nil))))) (pss_one (ps_ret pe_bl)) pss_nil)
      (pss_cons (ps_set (i := 6) nd rfl (Or.inl rfl) (pe_callTy (call_listK (K := K) rfl) (by rfl) zlist PyProof.Rows.boot_list (pa_cons (pv 1) pa_nil)))
      (pss_cons (ps_set (i := 7) nd rfl (Or.inl rfl) (pe_callTy (call_listK (K := K) rfl) (by rfl) zlist PyProof.Rows.boot_list (pa_cons (pv 2) pa_nil)))
      (pss_cons (ps_if (PW.pt (pw_or (pt_cmpR op_ne (pe_call GSH hr5 rfl mSH kSH bSH .nil pass0 (pa_cons (pv 6) (pa_cons (pv 7) pa_nil))) (pv 3) (nomark _)) (pw_or (pt_cmpR (op_neD (K := K) rfl hr.units) (pv 6) (pv 1) (nomark _)) (pw_or1 (pt_cmpR (op_neD (K := K) rfl hr.units) (pv 7) (pv 2) (nomark _)))))) (pss_one (ps_ret pe_bl)) pss_nil)
      (pss_cons (ps_expr (pe_bm PySem.F.plainAttrs_list PySem.F.slot_list_append PySem.F.type_list_append mt_append (pe_ix (ix_tupK (K := K) rfl) (pv 5) pe_int (fun _ _ => rfl)) (pa_cons pe_str pa_nil)))
      (pss_one (ps_expr (pe_bm PySem.F.plainAttrs_list PySem.F.slot_list_append PySem.F.type_list_append mt_append (pe_ix (ix_tupK (K := K) rfl) (pv 5) pe_int (fun _ _ => rfl)) (pa_cons (pe_tup (pa_cons pe_str (pa_cons pe_int (pa_cons pe_int pa_nil)))) pa_nil))))))))))))
      (pss_one (ps_ret (pe_callB (call_isK (K := K) rfl) (by rfl) zisinstance PyProof.Rows.boot_isinstance (pa_cons (pe_call GSH hr5 rfl mSH kSH bSH .nil pass0 (pa_cons (pv 1) (pa_cons (pv 2) pa_nil))) (pa_cons (pe_bltn (v := .ty "str") rfl zstr PyProof.Rows.boot_str rfl) pa_nil)))))))), ?_⟩
    refine ⟨_, rfl, a, ns, rfl, hS.sq, fun t nl rl nms rs H1 NN NNW s1 hR hy l12 ht hnl hrl => ?_⟩
    refine ⟨t, _, rfl, SqT.of ht, rfl, _, _, rfl, _, _, rfl, rfl, ?_⟩
    refine ⟨_, rfl, _, rfl, nl, rl, nms, rs, rfl, hnl, NN, SqL.of hrl, hR, l12, fun H2 s2 => ?_⟩
    have hnl2 := s2 _ _ hnl
    have hrl2 := s2 _ _ hrl
    have hR2 := hR.same s2
    have low : ∀ w ∈ nms, ∀ c ∈ w.cps.toList, c < 256 := fun w hw => (nm_pl NN hw).low
    have hin : ∀ r ∈ rs.map Rl.d, InR nms r ∧ r.2.2 ≠ 0 := fun r hr' => by
      obtain ⟨k, hk, rfl⟩ := List.mem_map.mp hr'
      exact ⟨(hR k hk).2, hy k hk⟩
    refine ⟨2, rfl, by decide, by decide, for_rangeN (n := 2) (fun i σ H' => (∃ v4 v5 v6 v7, σ = [some (.ref a), some (.ref nl), some (.ref rl), some (.str (textS nms (rs.map Rl.d))), v4, v5, v6, v7]) ∧ Same H2 H') ⟨⟨_, _, _, _, rfl⟩, Same.refl _⟩ ?_ ?_⟩
    · rintro i σ H3 hi ⟨⟨v4, v5, v6, v7, rfl⟩, s3⟩
      refine ⟨_, rfl, nms, rs.map Rl.d, rfl, NN, NNW, hin, by rw [List.length_map]; exact l12, fun g gn gl ks H4 s4 gn0 gl0 ngl ek hK hg hgn hgl _ => ?_⟩
      have lk : ks.length = rs.length := by have := congrArg List.length ek; rw [List.length_map, List.length_map] at this; exact this
      have n2n : H2 gn = none := s3.none gn0
      have n2l : H2 gl = none := s3.none gl0
      have s34 := s3.trans s4
      have nln : nl ≠ gn := ne_of_none hnl2 n2n
      refine ⟨_, rfl, _, _, _, true, rfl, .tup hg, rfl, _, rfl, iteF ?_⟩
      refine ⟨_, rfl, g, _, rfl, .inr (SqT.of hg), 2, 2, rfl, rfl, _, rfl, iteF ?_⟩
      refine ⟨_, rfl, g, _, _, _, rfl, rfl, SqT.of hg, atI_nat (j := 0) rfl, _, _, _, true, rfl, .lst hgn, rfl, _, rfl, iteF ?_⟩
      refine ⟨_, rfl, g, _, _, _, rfl, rfl, SqT.of hg, atI_nat (j := 0) rfl, _, rfl, .list (nms.map PyData.str), .list (nms.map PyData.str), .lst (SqL.of hgn) (strs_dv nms), .lst (SqL.of (s34 _ _ hnl2)) (strs_dv nms), shaped_strs low, shaped_strs low, noMix_list noMix_dS _ _, _, rfl, ?_⟩
      rw [if_pos rfl, same_list same_dS, decide_eq_true rfl]
      refine iteF ?_
      refine ⟨_, rfl, g, _, _, _, rfl, rfl, SqT.of hg, atI_nat (j := 1) rfl, _, rfl, gl, rl, nms.length, ks, rs, rfl, hgl, SqL.of (s34 _ _ hrl2), hK, hR2.same s34, ek, by omega, fun H5 s5 => ?_⟩
      have s35 := s34.trans s5
      refine ⟨_, rfl, iteF ?_⟩
      refine ⟨_, rfl, nl, _, rfl, .inl (SqL.of (s35 _ _ hnl2)), fun hn hhn0 => ?_⟩
      have s6 := Same.new (o := .lst (nms.map V.str)) hhn0
      have hhn : (upd H5 hn (.lst (nms.map V.str))) hn = some (.lst (nms.map V.str)) := upd_same
      have hg6 := s6 _ _ (s5 _ _ hg)
      have hgn6 := s6 _ _ (s5 _ _ hgn)
      have hgl6 := s6 _ _ (s5 _ _ hgl)
      replace s6 := s35.trans s6
      generalize upd H5 hn (.lst (nms.map V.str)) = H6 at s6 hhn hg6 hgn6 hgl6
      refine ⟨_, rfl, rl, _, rfl, .inl (SqL.of (s6 _ _ hrl2)), fun ht hht0 => ?_⟩
      have s7 := Same.new (o := .lst (rs.map fun (r : Rl) => V.ref r.r)) hht0
      have hht : (upd H6 ht (.lst (rs.map fun (r : Rl) => V.ref r.r))) ht = some (.lst (rs.map fun (r : Rl) => V.ref r.r)) := upd_same
      have hg7 := s7 _ _ hg6
      have hgn7 := s7 _ _ hgn6
      have hgl7 := s7 _ _ hgl6
      have hhn7 := s7 _ _ hhn
      replace s7 := s6.trans s7
      generalize upd H6 ht (.lst (rs.map fun (r : Rl) => V.ref r.r)) = H7 at s7 hht hg7 hgn7 hgl7 hhn7
      refine ⟨_, rfl, _, rfl, hn, ht, nms, rs, rfl, hhn7, NN, SqL.of hht, hR2.same s7, l12, fun H8 s8 => ?_⟩
      have s78 := s7.trans s8
      refine ⟨_, rfl, rfl, _, rfl, ?_⟩
      refine ite2 (fun hc => absurd hc (by simp)) (fun _ => ?_)
      refine ⟨_, rfl, _, rfl, .list (nms.map PyData.str), .list (nms.map PyData.str), .lst (SqL.of (s8 _ _ hhn7)) (strs_dv nms), .lst (SqL.of (s78 _ _ hnl2)) (strs_dv nms), shaped_strs low, shaped_strs low, noMix_list noMix_dS _ _, _, rfl, ?_⟩
      rw [if_pos rfl, same_list same_dS, decide_eq_true rfl]
      refine iteF ?_
      refine ⟨_, rfl, _, rfl, .list ((rs.map Rl.d).map dR), .list ((rs.map Rl.d).map dR), DV.lst (SqL.of (s8 _ _ hht)) (rules_dv (hR2.same s78)), DV.lst (SqL.of (s78 _ _ hrl2)) (rules_dv (hR2.same s78)), shaped_map canLay_dR depth_dR _, shaped_map canLay_dR depth_dR _, noMix_list noMix_dR _ _, _, rfl, ?_⟩
      rw [if_pos rfl, same_list same_dR, decide_eq_true rfl]
      refine iteF ?_
      have hg8 := s8 _ _ hg7
      have hgn8 := s8 _ _ hgn7
      have hgl8 := s8 _ _ hgl7
      refine ⟨_, rfl, g, _, _, _, rfl, rfl, SqT.of hg8, atI_nat (j := 0) rfl, .inl ⟨rfl, _, SqL.of hgn8⟩, gn, _, _, rfl, rfl, hgn8, small1000 (by rw [List.length_map]; have := NN.l7; omega), ?_⟩
      have s9 := s78.over (o := .lst (nms.map V.str ++ [V.str "more"])) n2n
      have hg9 : (upd H8 gn (.lst (nms.map V.str ++ [V.str "more"]))) g = some (.tup [V.ref gn, V.ref gl]) := by
        rw [upd_ne (fun z => by rw [z, hgn8] at hg8; cases hg8)]; exact hg8
      have hgl9 : (upd H8 gn (.lst (nms.map V.str ++ [V.str "more"]))) gl = some (.lst (ks.map fun (r : Rl) => V.ref r.r)) := by
        rw [upd_ne ngl.symm]; exact hgl8
      generalize upd H8 gn (.lst (nms.map V.str ++ [V.str "more"])) = H9 at s9 hg9 hgl9
      refine ⟨_, rfl, g, _, _, _, rfl, rfl, SqT.of hg9, atI_nat (j := 1) rfl, .inl ⟨rfl, _, SqL.of hgl9⟩, (by show 3 ≤ sizeLine; decide), fun tt htt => ?_⟩
      have sA := Same.new (o := .tup [V.str "settle", V.int 0, V.int 1]) htt
      refine ⟨gl, _, _, rfl, rfl, sA _ _ hgl9, small1000 (by rw [List.length_map]; omega), ?_⟩
      exact ⟨⟨_, _, _, _, rfl⟩, (s9.trans sA).over n2l⟩
    · rintro σ H3 ⟨⟨v4, v5, v6, v7, rfl⟩, s3⟩
      refine ⟨_, rfl, _, rfl, nl, rl, nms, rs, rfl, s3 _ _ hnl2, NN, SqL.of (s3 _ _ hrl2), hR2.same s3, l12, fun H4 s4 => ?_⟩
      exact ⟨_, _, _, true, rfl, .str _, rfl, q _⟩
end
end Own

namespace Own
open PySem L2
/-! what the top has written, and the law's own head -/
theorem all_mk {l : PySem.W.OpenLaw} {w : World} {K : PySem.W.Frag} {h : Heap} {mg : Str → Option Value} {fa fH fC fISN fAN fSN fNI fFR fRN fRR fRE fSR fSH fCA fNA fRU fLR fTB fIN fLL fLT fRA fQ : Addr} (X : K.In h) (G : h.Ns mainGlobals mg) (hfa : mg "law" = some (.ref fa))
    {odH anH odC anC odISN anISN odAN anAN odSN anSN odNI anNI odFR anFR odRN anRN odRR anRR odRE anRE odSR anSR odSH anSH odCA anCA odNA anNA odRU anRU odLR anLR odTB anTB odIN anIN odLL anLL odLT anLT odRA anRA odQ anQ : Option Addr} {slH slC slISN slAN slSN slNI slFR slRN slRR slRE slSR slSH slCA slNA slRU slLR slTB slIN slLL slLT slRA slQ : Array (Option Value)} {ocH kVH dcH pmH cdH ctH ocC kVC dcC pmC cdC ctC ocISN kVISN dcISN pmISN cdISN ctISN ocAN kVAN dcAN pmAN cdAN ctAN ocSN kVSN dcSN pmSN cdSN ctSN ocNI kVNI dcNI pmNI cdNI ctNI ocFR kVFR dcFR pmFR cdFR ctFR ocRN kVRN dcRN pmRN cdRN ctRN ocRR kVRR dcRR pmRR cdRR ctRR ocRE kVRE dcRE pmRE cdRE ctRE ocSR kVSR dcSR pmSR cdSR ctSR ocSH kVSH dcSH pmSH cdSH ctSH ocCA kVCA dcCA pmCA cdCA ctCA ocNA kVNA dcNA pmNA cdNA ctNA ocRU kVRU dcRU pmRU cdRU ctRU ocLR kVLR dcLR pmLR cdLR ctLR ocTB kVTB dcTB pmTB cdTB ctTB ocIN kVIN dcIN pmIN cdIN ctIN ocLL kVLL dcLL pmLL cdLL ctLL ocLT kVLT dcLT pmLT cdLT ctLT ocRA kVRA dcRA pmRA cdRA ctRA ocQ kVQ dcQ pmQ cdQ ctQ : Value}
    (aH : PySem.W.nsIn K mainGlobals "has_column" = some (some (.ref fH))) (lH : K.lookup fH = some ⟨ocH, odH, .func (PySem.W.fnOf "has_column" "has_column" (defArgs sHas) (defBody sHas) (defScope sHas) .none kVH dcH pmH anH cdH ctH), slH⟩) (cH : PySem.W.codeIn K cdH "has_column" = true) (kH : PySem.W.keepIn K (.ref fH) = true)
    (aC : PySem.W.nsIn K mainGlobals "columns_of" = some (some (.ref fC))) (lC : K.lookup fC = some ⟨ocC, odC, .func (PySem.W.fnOf "columns_of" "columns_of" (defArgs sCols) (defBody sCols) (defScope sCols) .none kVC dcC pmC anC cdC ctC), slC⟩) (cC : PySem.W.codeIn K cdC "columns_of" = true) (kC : PySem.W.keepIn K (.ref fC) = true)
    (aISN : PySem.W.nsIn K mainGlobals "is_name" = some (some (.ref fISN))) (lISN : K.lookup fISN = some ⟨ocISN, odISN, .func (PySem.W.fnOf "is_name" "is_name" (defArgs sIsName) (defBody sIsName) (defScope sIsName) .none kVISN dcISN pmISN anISN cdISN ctISN), slISN⟩) (cISN : PySem.W.codeIn K cdISN "is_name" = true) (kISN : PySem.W.keepIn K (.ref fISN) = true)
    (aAN : PySem.W.nsIn K mainGlobals "are_names" = some (some (.ref fAN))) (lAN : K.lookup fAN = some ⟨ocAN, odAN, .func (PySem.W.fnOf "are_names" "are_names" (defArgs sAreNames) (defBody sAreNames) (defScope sAreNames) .none kVAN dcAN pmAN anAN cdAN ctAN), slAN⟩) (cAN : PySem.W.codeIn K cdAN "are_names" = true) (kAN : PySem.W.keepIn K (.ref fAN) = true)
    (aSN : PySem.W.nsIn K mainGlobals "set_named" = some (some (.ref fSN))) (lSN : K.lookup fSN = some ⟨ocSN, odSN, .func (PySem.W.fnOf "set_named" "set_named" (defArgs sSetN) (defBody sSetN) (defScope sSetN) .none kVSN dcSN pmSN anSN cdSN ctSN), slSN⟩) (cSN : PySem.W.codeIn K cdSN "set_named" = true) (kSN : PySem.W.keepIn K (.ref fSN) = true)
    (aNI : PySem.W.nsIn K mainGlobals "names_in" = some (some (.ref fNI))) (lNI : K.lookup fNI = some ⟨ocNI, odNI, .func (PySem.W.fnOf "names_in" "names_in" (defArgs sNamesIn) (defBody sNamesIn) (defScope sNamesIn) .none kVNI dcNI pmNI anNI cdNI ctNI), slNI⟩) (cNI : PySem.W.codeIn K cdNI "names_in" = true) (kNI : PySem.W.keepIn K (.ref fNI) = true)
    (aFR : PySem.W.nsIn K mainGlobals "first_rule_word" = some (some (.ref fFR))) (lFR : K.lookup fFR = some ⟨ocFR, odFR, .func (PySem.W.fnOf "first_rule_word" "first_rule_word" (defArgs sFRW) (defBody sFRW) (defScope sFRW) .none kVFR dcFR pmFR anFR cdFR ctFR), slFR⟩) (cFR : PySem.W.codeIn K cdFR "first_rule_word" = true) (kFR : PySem.W.keepIn K (.ref fFR) = true)
    (aRN : PySem.W.nsIn K mainGlobals "read_names" = some (some (.ref fRN))) (lRN : K.lookup fRN = some ⟨ocRN, odRN, .func (PySem.W.fnOf "read_names" "read_names" (defArgs sReadNames) (defBody sReadNames) (defScope sReadNames) .none kVRN dcRN pmRN anRN cdRN ctRN), slRN⟩) (cRN : PySem.W.codeIn K cdRN "read_names" = true) (kRN : PySem.W.keepIn K (.ref fRN) = true)
    (aRR : PySem.W.nsIn K mainGlobals "read_rule" = some (some (.ref fRR))) (lRR : K.lookup fRR = some ⟨ocRR, odRR, .func (PySem.W.fnOf "read_rule" "read_rule" (defArgs sReadRule) (defBody sReadRule) (defScope sReadRule) .none kVRR dcRR pmRR anRR cdRR ctRR), slRR⟩) (cRR : PySem.W.codeIn K cdRR "read_rule" = true) (kRR : PySem.W.keepIn K (.ref fRR) = true)
    (aRE : PySem.W.nsIn K mainGlobals "read" = some (some (.ref fRE))) (lRE : K.lookup fRE = some ⟨ocRE, odRE, .func (PySem.W.fnOf "read" "read" (defArgs sRead) (defBody sRead) (defScope sRead) .none kVRE dcRE pmRE anRE cdRE ctRE), slRE⟩) (cRE : PySem.W.codeIn K cdRE "read" = true) (kRE : PySem.W.keepIn K (.ref fRE) = true)
    (aSR : PySem.W.nsIn K mainGlobals "show_rule" = some (some (.ref fSR))) (lSR : K.lookup fSR = some ⟨ocSR, odSR, .func (PySem.W.fnOf "show_rule" "show_rule" (defArgs sShowRule) (defBody sShowRule) (defScope sShowRule) .none kVSR dcSR pmSR anSR cdSR ctSR), slSR⟩) (cSR : PySem.W.codeIn K cdSR "show_rule" = true) (kSR : PySem.W.keepIn K (.ref fSR) = true)
    (aSH : PySem.W.nsIn K mainGlobals "shown" = some (some (.ref fSH))) (lSH : K.lookup fSH = some ⟨ocSH, odSH, .func (PySem.W.fnOf "shown" "shown" (defArgs sShown) (defBody sShown) (defScope sShown) .none kVSH dcSH pmSH anSH cdSH ctSH), slSH⟩) (cSH : PySem.W.codeIn K cdSH "shown" = true) (kSH : PySem.W.keepIn K (.ref fSH) = true)
    (aCA : PySem.W.nsIn K mainGlobals "_law_cell_at" = some (some (.ref fCA))) (lCA : K.lookup fCA = some ⟨ocCA, odCA, .func (PySem.W.fnOf "_law_cell_at" "_law_cell_at" (defArgs sCellAt) (defBody sCellAt) (defScope sCellAt) .none kVCA dcCA pmCA anCA cdCA ctCA), slCA⟩) (cCA : PySem.W.codeIn K cdCA "_law_cell_at" = true) (kCA : PySem.W.keepIn K (.ref fCA) = true)
    (aNA : PySem.W.nsIn K mainGlobals "_law_names" = some (some (.ref fNA))) (lNA : K.lookup fNA = some ⟨ocNA, odNA, .func (PySem.W.fnOf "_law_names" "_law_names" (defArgs sNames) (defBody sNames) (defScope sNames) .none kVNA dcNA pmNA anNA cdNA ctNA), slNA⟩) (cNA : PySem.W.codeIn K cdNA "_law_names" = true) (kNA : PySem.W.keepIn K (.ref fNA) = true)
    (aRU : PySem.W.nsIn K mainGlobals "_law_rule" = some (some (.ref fRU))) (lRU : K.lookup fRU = some ⟨ocRU, odRU, .func (PySem.W.fnOf "_law_rule" "_law_rule" (defArgs sMkRule) (defBody sMkRule) (defScope sMkRule) .none kVRU dcRU pmRU anRU cdRU ctRU), slRU⟩) (cRU : PySem.W.codeIn K cdRU "_law_rule" = true) (kRU : PySem.W.keepIn K (.ref fRU) = true)
    (aLR : PySem.W.nsIn K mainGlobals "_law_rules" = some (some (.ref fLR))) (lLR : K.lookup fLR = some ⟨ocLR, odLR, .func (PySem.W.fnOf "_law_rules" "_law_rules" (defArgs sLRules) (defBody sLRules) (defScope sLRules) .none kVLR dcLR pmLR anLR cdLR ctLR), slLR⟩) (cLR : PySem.W.codeIn K cdLR "_law_rules" = true) (kLR : PySem.W.keepIn K (.ref fLR) = true)
    (aTB : PySem.W.nsIn K mainGlobals "_law_table" = some (some (.ref fTB))) (lTB : K.lookup fTB = some ⟨ocTB, odTB, .func (PySem.W.fnOf "_law_table" "_law_table" (defArgs sTable) (defBody sTable) (defScope sTable) .none kVTB dcTB pmTB anTB cdTB ctTB), slTB⟩) (cTB : PySem.W.codeIn K cdTB "_law_table" = true) (kTB : PySem.W.keepIn K (.ref fTB) = true)
    (aIN : PySem.W.nsIn K mainGlobals "_law_in" = some (some (.ref fIN))) (lIN : K.lookup fIN = some ⟨ocIN, odIN, .func (PySem.W.fnOf "_law_in" "_law_in" (defArgs sIn) (defBody sIn) (defScope sIn) .none kVIN dcIN pmIN anIN cdIN ctIN), slIN⟩) (cIN : PySem.W.codeIn K cdIN "_law_in" = true) (kIN : PySem.W.keepIn K (.ref fIN) = true)
    (aLL : PySem.W.nsIn K mainGlobals "_law_line" = some (some (.ref fLL))) (lLL : K.lookup fLL = some ⟨ocLL, odLL, .func (PySem.W.fnOf "_law_line" "_law_line" (defArgs sLLine) (defBody sLLine) (defScope sLLine) .none kVLL dcLL pmLL anLL cdLL ctLL), slLL⟩) (cLL : PySem.W.codeIn K cdLL "_law_line" = true) (kLL : PySem.W.keepIn K (.ref fLL) = true)
    (aLT : PySem.W.nsIn K mainGlobals "_law_text" = some (some (.ref fLT))) (lLT : K.lookup fLT = some ⟨ocLT, odLT, .func (PySem.W.fnOf "_law_text" "_law_text" (defArgs sLText) (defBody sLText) (defScope sLText) .none kVLT dcLT pmLT anLT cdLT ctLT), slLT⟩) (cLT : PySem.W.codeIn K cdLT "_law_text" = true) (kLT : PySem.W.keepIn K (.ref fLT) = true)
    (aRA : PySem.W.nsIn K mainGlobals "_law_rules_alike" = some (some (.ref fRA))) (lRA : K.lookup fRA = some ⟨ocRA, odRA, .func (PySem.W.fnOf "_law_rules_alike" "_law_rules_alike" (defArgs sAlike) (defBody sAlike) (defScope sAlike) .none kVRA dcRA pmRA anRA cdRA ctRA), slRA⟩) (cRA : PySem.W.codeIn K cdRA "_law_rules_alike" = true) (kRA : PySem.W.keepIn K (.ref fRA) = true)
    (aQ : PySem.W.nsIn K mainGlobals "law" = some (some (.ref fQ))) (lQ : K.lookup fQ = some ⟨ocQ, odQ, .func (PySem.W.fnOf "law" "law" (defArgs sLaw) (defBody sLaw) (defScope sLaw) .none kVQ dcQ pmQ anQ cdQ ctQ), slQ⟩) (cQ : PySem.W.codeIn K cdQ "law" = true) (kQ : PySem.W.keepIn K (.ref fQ) = true)
    {tkLN : Tok} (aLN : PySem.W.nsIn K mainGlobals "LONGEST_NAME" = some (some (.int 8 tkLN))) {tkMC : Tok} (aMC : PySem.W.nsIn K mainGlobals "MOST_COLUMNS" = some (some (.int 7 tkMC))) {tkMR : Tok} (aMR : PySem.W.nsIn K mainGlobals "MOST_RULES" = some (some (.int 12 tkMR)))
    {RWA : Addr} {odRW : Option Addr} {taRW tbRW tkLE : Tok} {nRW : Nat} {slRW : Array (Option Value)} (aLE : PySem.W.nsIn K mainGlobals "LETTERS" = some (some (.str "abcdefghijklmnopqrstuvwxyz" tkLE))) (aRWW : PySem.W.nsIn K mainGlobals "RULE_WORDS" = some (some (.ref RWA))) (lRWW : K.lookup RWA = some ⟨.type "tuple", odRW, .seq #[.str "settle" taRW, .str "deal" tbRW] nRW, slRW⟩)
    (ylen : PySem.W.nsIn K mainGlobals "len" = some none) (yrange : PySem.W.nsIn K mainGlobals "range" = some none) (ylist : PySem.W.nsIn K mainGlobals "list" = some none) (yint : PySem.W.nsIn K mainGlobals "int" = some none) (ybool : PySem.W.nsIn K mainGlobals "bool" = some none) (yisinstance : PySem.W.nsIn K mainGlobals "isinstance" = some none) (ystr : PySem.W.nsIn K mainGlobals "str" = some none) (ytuple : PySem.W.nsIn K mainGlobals "tuple" = some none) (yall : PySem.W.nsIn K mainGlobals "all" = some none) (yset : PySem.W.nsIn K mainGlobals "set" = some none) (yenumerate : PySem.W.nsIn K mainGlobals "enumerate" = some none) :
    ∃ fd : FuncData, (∀ (s : Shared) (v : Value), BindsTo s fd ⟨[v], []⟩ [("_law_script", v)]) ∧ ∀ base : Heap, K.In base → base.Ns mainGlobals mg → FnOk l.prog w K mg base CX0 6 fa fd ["_law_script"] (spLaw K) := by
  have e := hfa.symm.trans (PySem.W.mg_of X G aQ)
  cases e
  have FH := fun_mk (st := sHas) lH cH kH
  have mH := PySem.W.mg_of X G aH
  have bH := FH.binds (ps := ["some", "column"]) fun _ _ _ _ _ _ us hl => match us, hl with | [_, _], _ => rfl
  have FC := fun_mk (st := sCols) lC cC kC
  have mC := PySem.W.mg_of X G aC
  have bC := FC.binds (ps := ["some"]) fun _ _ _ _ _ _ us hl => match us, hl with | [_], _ => rfl
  have FISN := fun_mk (st := sIsName) lISN cISN kISN
  have mISN := PySem.W.mg_of X G aISN
  have bISN := FISN.binds (ps := ["word"]) fun _ _ _ _ _ _ us hl => match us, hl with | [_], _ => rfl
  have FAN := fun_mk (st := sAreNames) lAN cAN kAN
  have mAN := PySem.W.mg_of X G aAN
  have bAN := FAN.binds (ps := ["words"]) fun _ _ _ _ _ _ us hl => match us, hl with | [_], _ => rfl
  have FSN := fun_mk (st := sSetN) lSN cSN kSN
  have mSN := PySem.W.mg_of X G aSN
  have bSN := FSN.binds (ps := ["names", "words"]) fun _ _ _ _ _ _ us hl => match us, hl with | [_, _], _ => rfl
  have FNI := fun_mk (st := sNamesIn) lNI cNI kNI
  have mNI := PySem.W.mg_of X G aNI
  have bNI := FNI.binds (ps := ["names", "some"]) fun _ _ _ _ _ _ us hl => match us, hl with | [_, _], _ => rfl
  have FFR := fun_mk (st := sFRW) lFR cFR kFR
  have mFR := PySem.W.mg_of X G aFR
  have bFR := FFR.binds (ps := ["words"]) fun _ _ _ _ _ _ us hl => match us, hl with | [_], _ => rfl
  have FRN := fun_mk (st := sReadNames) lRN cRN kRN
  have mRN := PySem.W.mg_of X G aRN
  have bRN := FRN.binds (ps := ["line"]) fun _ _ _ _ _ _ us hl => match us, hl with | [_], _ => rfl
  have FRR := fun_mk (st := sReadRule) lRR cRR kRR
  have mRR := PySem.W.mg_of X G aRR
  have bRR := FRR.binds (ps := ["names", "line"]) fun _ _ _ _ _ _ us hl => match us, hl with | [_, _], _ => rfl
  have FRE := fun_mk (st := sRead) lRE cRE kRE
  have mRE := PySem.W.mg_of X G aRE
  have bRE := FRE.binds (ps := ["text"]) fun _ _ _ _ _ _ us hl => match us, hl with | [_], _ => rfl
  have FSR := fun_mk (st := sShowRule) lSR cSR kSR
  have mSR := PySem.W.mg_of X G aSR
  have bSR := FSR.binds (ps := ["names", "rule"]) fun _ _ _ _ _ _ us hl => match us, hl with | [_, _], _ => rfl
  have FSH := fun_mk (st := sShown) lSH cSH kSH
  have mSH := PySem.W.mg_of X G aSH
  have bSH := FSH.binds (ps := ["names", "rules"]) fun _ _ _ _ _ _ us hl => match us, hl with | [_, _], _ => rfl
  have FCA := fun_mk (st := sCellAt) lCA cCA kCA
  have mCA := PySem.W.mg_of X G aCA
  have bCA := FCA.binds (ps := ["_law_script", "_law_k"]) fun _ _ _ _ _ _ us hl => match us, hl with | [_, _], _ => rfl
  have FNA := fun_mk (st := sNames) lNA cNA kNA
  have mNA := PySem.W.mg_of X G aNA
  have bNA := FNA.binds (ps := ["_law_cell", "_law_count"]) fun _ _ _ _ _ _ us hl => match us, hl with | [_, _], _ => rfl
  have FRU := fun_mk (st := sMkRule) lRU cRU kRU
  have mRU := PySem.W.mg_of X G aRU
  have bRU := FRU.binds (ps := ["_law_cell", "_law_many"]) fun _ _ _ _ _ _ us hl => match us, hl with | [_, _], _ => rfl
  have FLR := fun_mk (st := sLRules) lLR cLR kLR
  have mLR := PySem.W.mg_of X G aLR
  have bLR := FLR.binds (ps := ["_law_script", "_law_many"]) fun _ _ _ _ _ _ us hl => match us, hl with | [_, _], _ => rfl
  have FTB := fun_mk (st := sTable) lTB cTB kTB
  have mTB := PySem.W.mg_of X G aTB
  have bTB := FTB.binds (ps := ["_law_script", "_law_most"]) fun _ _ _ _ _ _ us hl => match us, hl with | [_, _], _ => rfl
  have FIN := fun_mk (st := sIn) lIN cIN kIN
  have mIN := PySem.W.mg_of X G aIN
  have bIN := FIN.binds (ps := ["_law_names_here", "_law_some"]) fun _ _ _ _ _ _ us hl => match us, hl with | [_, _], _ => rfl
  have FLL := fun_mk (st := sLLine) lLL cLL kLL
  have mLL := PySem.W.mg_of X G aLL
  have bLL := FLL.binds (ps := ["_law_names_here", "_law_rule_here"]) fun _ _ _ _ _ _ us hl => match us, hl with | [_, _], _ => rfl
  have FLT := fun_mk (st := sLText) lLT cLT kLT
  have mLT := PySem.W.mg_of X G aLT
  have bLT := FLT.binds (ps := ["_law_names_here", "_law_rules_here"]) fun _ _ _ _ _ _ us hl => match us, hl with | [_, _], _ => rfl
  have FRA := fun_mk (st := sAlike) lRA cRA kRA
  have mRA := PySem.W.mg_of X G aRA
  have bRA := FRA.binds (ps := ["_law_got", "_law_rules_here"]) fun _ _ _ _ _ _ us hl => match us, hl with | [_, _], _ => rfl
  have FQ := fun_mk (st := sLaw) lQ cQ kQ
  have mQ := PySem.W.mg_of X G aQ
  have mLN := PySem.W.mg_of X G aLN
  have mMC := PySem.W.mg_of X G aMC
  have mMR := PySem.W.mg_of X G aMR
  have zlen := PySem.W.mg_none_of X G ylen
  have zrange := PySem.W.mg_none_of X G yrange
  have zlist := PySem.W.mg_none_of X G ylist
  have zint := PySem.W.mg_none_of X G yint
  have zbool := PySem.W.mg_none_of X G ybool
  have zisinstance := PySem.W.mg_none_of X G yisinstance
  have zstr := PySem.W.mg_none_of X G ystr
  have ztuple := PySem.W.mg_none_of X G ytuple
  have zall := PySem.W.mg_none_of X G yall
  have zset := PySem.W.mg_none_of X G yset
  have zenumerate := PySem.W.mg_none_of X G yenumerate
  refine ⟨PySem.W.fnOf "law" "law" (defArgs sLaw) (defBody sLaw) (defScope sLaw) .none kVQ dcQ pmQ anQ cdQ ctQ, fun s v => .of_eq rfl, fun base _ _ => ?_⟩
  have mLE := PySem.W.mg_of X G aLE
  have mRWW := PySem.W.mg_of X G aRWW
  have hRW : RWT K RWA := fun H => .inr ⟨_, #[.str "settle" taRW, .str "deal" tbRW], _, lRWW, rfl, rfl, (by show 2 ≤ sizeLine; decide), .cons ⟨_, rfl⟩ (.cons ⟨_, rfl⟩ .nil)⟩
  have GH := ok_has (P := l.prog) (w := w) (mg := mg) (base := base) FH
  have GC := ok_cols FC GH mH kH bH zrange
  have GISN := ok_isname (P := l.prog) (w := w) (base := base) FISN mLN mLE mRWW hRW zlen zall
  have GAN := ok_arenames FAN GISN mISN kISN bISN mMC zlen zall zset
  have GSN := ok_setn (P := l.prog) (w := w) (mg := mg) (base := base) FSN
  have GNI := ok_namesin FNI GC mC kC bC
  have GFR := ok_frw (P := l.prog) (w := w) (base := base) FFR mRWW hRW zenumerate
  have GRN := ok_readnames FRN GAN mAN kAN bAN
  have GRR := ok_readrule FRR GFR mFR kFR bFR GSN mSN kSN bSN
  have GRE := ok_read FRE GRN mRN kRN bRN GRR mRR kRR bRR mMR zisinstance zstr zrange zlen
  have GSR := ok_showrule FSR GNI mNI kNI bNI
  have GSH := ok_shown FSH GSR mSR kSR bSR
  have GCD := ok_cellat (P := l.prog) (w := w) (base := base) FCA zlen
  have GCA := GCD.imp cellD_imp
  have GNA := ok_names (P := l.prog) (w := w) (base := base) FNA zrange
  have GRU := ok_mkrule (P := l.prog) (w := w) (mg := mg) (base := base) FRU
  have GLR := ok_lrules FLR GCA mCA kCA bCA GRU mRU kRU bRU zrange
  have GTB := ok_table FTB GCA mCA kCA bCA GNA mNA kNA bNA GLR mLR kLR bLR
  have GIN := ok_in (P := l.prog) (w := w) (base := base) FIN zrange zlen
  have GLL := ok_lline FLL GIN mIN kIN bIN
  have GLT := ok_ltext FLT GLL mLL kLL bLL
  have GRA := ok_alike80 (P := l.prog) (w := w) (base := base) FRA zisinstance zlist ztuple zstr zint zbool
  exact ok_law FQ GTB mTB kTB bTB GLT mLT kLT bLT GRE mRE kRE bRE GRA mRA kRA bRA GSH mSH kSH bSH zisinstance ztuple zlist zlen zrange zstr
theorem walk {l : PySem.W.OpenLaw} {q : Program} {loose : List Str} {XP : (Str → Option Value) → Heap → Prop} {YP : World → Heap → Prop} {d : DefRec} {K : Params → PySem.W.Frag} (hn : l.most = some 63) (hdf : d.params.defaults = [])
    (hY : ∀ (w : World) (h : Heap), YP w h → (K w.params).In h)
    (F : ∀ (w : World) (mg : Str → Option Value) (fa : Addr) (h : Heap), (K w.params).In h → h.Ns mainGlobals mg → mg d.name = some (.ref fa) →
      ∃ fd : FuncData, (∀ (s : Shared) (u : Value), BindsTo s fd ⟨[u], []⟩ [("_law_script", u)]) ∧ ∀ base : Heap, (K w.params).In base → base.Ns mainGlobals mg → FnOk l.prog w (K w.params) mg base CX0 6 fa fd ["_law_script"] (spLaw (K w.params))) :
    PySem.W.WalkO q loose XP YP l.row.toRowW d [] (fun f vs => PySem.call f vs) :=
  L2.walk_of (n := 63) (k := 6) (x := "_law_script") (CX := fun _ => CX0) (sp := fun w => spLaw (K w.params)) hn (by decide) hdf ⟨rfl, by decide, by decide⟩ hY F (fun _ _ a ns hl hO hS => ⟨a, ns, rfl, SqF.of hO hS, hl, fun _ => rfl⟩) fun _ _ _ _ _ z => z
end Own
/-! names laid ahead, so that the head makes no twins of heaps, trees and the whole text: its own evaluation is quick without them -/
noncomputable def PySem.W.Fast.tw8219590773127037990 : Unit := ()
noncomputable def PySem.W.Fast.tw11569692325660545406 : Unit := ()
noncomputable def PySem.W.Fast.tw10935684294376803986 : Unit := ()
noncomputable def PySem.W.Fast.tw16069142860049674289 : Unit := ()
noncomputable def PySem.W.Fast.tw10700497667615750659 : Unit := ()
noncomputable def PySem.W.Fast.tw1004604047257832817 : Unit := ()
open PySem PySem.W PyProof.Rows
set_option maxRecDepth 100000 in
set_option maxHeartbeats 0 in
theorem PySem.Challenge.cw_splithouse_k80_tables_read_and_shown_holds : PySem.Challenge.rw_splithouse_k80_tables_read_and_shown.Holds := by
  w_on; o_law; k_head; (case hw => w_witness2)
  k_fill
  refine Own.walk (l := PySem.Challenge.rw_splithouse_k80_tables_read_and_shown) rfl rfl (fun w h Y => PySem.W.kIn_of Y) ?F
  case F =>
    intro w mg fa h KX G hmg
    refine' Own.all_mk KX G hmg ?aH ?lH ?cH ?kH ?aC ?lC ?cC ?kC ?aISN ?lISN ?cISN ?kISN ?aAN ?lAN ?cAN ?kAN ?aSN ?lSN ?cSN ?kSN ?aNI ?lNI ?cNI ?kNI ?aFR ?lFR ?cFR ?kFR ?aRN ?lRN ?cRN ?kRN ?aRR ?lRR ?cRR ?kRR ?aRE ?lRE ?cRE ?kRE ?aSR ?lSR ?cSR ?kSR ?aSH ?lSH ?cSH ?kSH ?aCA ?lCA ?cCA ?kCA ?aNA ?lNA ?cNA ?kNA ?aRU ?lRU ?cRU ?kRU ?aLR ?lLR ?cLR ?kLR ?aTB ?lTB ?cTB ?kTB ?aIN ?lIN ?cIN ?kIN ?aLL ?lLL ?cLL ?kLL ?aLT ?lLT ?cLT ?kLT ?aRA ?lRA ?cRA ?kRA ?aQ ?lQ ?cQ ?kQ ?aLN ?aMC ?aMR ?aLE ?aRWW ?lRWW ?ylen ?yrange ?ylist ?yint ?ybool ?yisinstance ?ystr ?ytuple ?yall ?yset ?yenumerate
    (case aH => k_is)
    (case lH => k_is)
    (case cH => k_is)
    (case kH => k_is)
    (case aC => k_is)
    (case lC => k_is)
    (case cC => k_is)
    (case kC => k_is)
    (case aISN => k_is)
    (case lISN => k_is)
    (case cISN => k_is)
    (case kISN => k_is)
    (case aAN => k_is)
    (case lAN => k_is)
    (case cAN => k_is)
    (case kAN => k_is)
    (case aSN => k_is)
    (case lSN => k_is)
    (case cSN => k_is)
    (case kSN => k_is)
    (case aNI => k_is)
    (case lNI => k_is)
    (case cNI => k_is)
    (case kNI => k_is)
    (case aFR => k_is)
    (case lFR => k_is)
    (case cFR => k_is)
    (case kFR => k_is)
    (case aRN => k_is)
    (case lRN => k_is)
    (case cRN => k_is)
    (case kRN => k_is)
    (case aRR => k_is)
    (case lRR => k_is)
    (case cRR => k_is)
    (case kRR => k_is)
    (case aRE => k_is)
    (case lRE => k_is)
    (case cRE => k_is)
    (case kRE => k_is)
    (case aSR => k_is)
    (case lSR => k_is)
    (case cSR => k_is)
    (case kSR => k_is)
    (case aSH => k_is)
    (case lSH => k_is)
    (case cSH => k_is)
    (case kSH => k_is)
    (case aCA => k_is)
    (case lCA => k_is)
    (case cCA => k_is)
    (case kCA => k_is)
    (case aNA => k_is)
    (case lNA => k_is)
    (case cNA => k_is)
    (case kNA => k_is)
    (case aRU => k_is)
    (case lRU => k_is)
    (case cRU => k_is)
    (case kRU => k_is)
    (case aLR => k_is)
    (case lLR => k_is)
    (case cLR => k_is)
    (case kLR => k_is)
    (case aTB => k_is)
    (case lTB => k_is)
    (case cTB => k_is)
    (case kTB => k_is)
    (case aIN => k_is)
    (case lIN => k_is)
    (case cIN => k_is)
    (case kIN => k_is)
    (case aLL => k_is)
    (case lLL => k_is)
    (case cLL => k_is)
    (case kLL => k_is)
    (case aLT => k_is)
    (case lLT => k_is)
    (case cLT => k_is)
    (case kLT => k_is)
    (case aRA => k_is)
    (case lRA => k_is)
    (case cRA => k_is)
    (case kRA => k_is)
    (case aQ => k_is)
    (case lQ => k_is)
    (case cQ => k_is)
    (case kQ => k_is)
    (case aLN => k_is)
    (case aMC => k_is)
    (case aMR => k_is)
    (case aLE => k_is)
    (case aRWW => k_is)
    (case lRWW => k_is)
    (case ylen => k_is)
    (case yrange => k_is)
    (case ylist => k_is)
    (case yint => k_is)
    (case ybool => k_is)
    (case yisinstance => k_is)
    (case ystr => k_is)
    (case ytuple => k_is)
    (case yall => k_is)
    (case yset => k_is)
    (case yenumerate => k_is)


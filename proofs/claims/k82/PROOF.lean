import PyProof.Rows.All
import Wide.All
import OpenK.AllK
import Wide.FinOn
import Lean
import PyProof.EqAt
import PyProof.EqKinds
import PyProof.TupleCall
import KE.KTryMore
import KE.KIsAll
import PyProof.ExcBaseAll.ValueError
import PyProof.NsDelKeeps
import PyProof.StrCalls2
import PyProof.StrBlockG
import PyProof.StrLawsChain
import PyProof.StrLawsIn
import PyProof.StrLawsRepr
import PyProof.ReprStr
import PyProof.StrBlockI
import PyProof.Rows.FStr
import PyProof.ExcArgsOwn
import KE.KDictList
import KE.RegKIsAll
import KE.RegKTryMore
import PySem.Challenge.RW_splithouse_k82_sets_written
-- CHANGE: your row's module here, as the last of these rows
set_option Elab.async false
set_option linter.all false
set_option maxRecDepth 100000
/-! THE HAND LAYER, for ints, bools, texts, own classes, LISTS and tuples (index, slices, in, append, pop ..), calls, loops. Paste it whole ahead of your own text; what your proof does not reach may be deleted. -/
namespace L2
open PySem PySem.Spec PyProof.Rows

/-- a key: an int or a str -/
noncomputable abbrev Key := Sum Int Str
noncomputable def keyIs : Key → Value → Bool
  | .inl k, v => Value.isInt k v
  | .inr x, v => Value.isStrOf x v
noncomputable def keyH (w : World) : Key → Int
  | .inl k => hashInt k
  | .inr x => hashStr w x
theorem keyIs_shape : ∀ {k : Key} {v : Value}, keyIs k v = true → (∃ i t, k = Sum.inl i ∧ v = Value.int i t) ∨ (∃ x t, k = Sum.inr x ∧ v = Value.str x t)
  | .inl i, v, h => by
    obtain ⟨t, e⟩ := Value.isInt_shape (k := i) (v := v) h
    exact .inl ⟨i, t, rfl, e⟩
  | .inr x, v, h => by
    obtain ⟨t, e⟩ := Value.isStrOf_shape (x := x) (v := v) h
    exact .inr ⟨x, t, rfl, e⟩
theorem key_ll (a b : Int) : decide ((Sum.inl a : Key) = Sum.inl b) = (a == b) := by
  by_cases e : a = b
  · subst e; simp
  · have h : ¬ (Sum.inl a : Key) = Sum.inl b := fun q => e (Sum.inl.inj q)
    rw [decide_eq_false h]
    exact (beq_eq_false_iff_ne.mpr e).symm
theorem key_rr (a b : Str) : decide ((Sum.inr a : Key) = Sum.inr b) = decide (a = b) := by
  by_cases e : a = b
  · subst e; simp
  · have h : ¬ (Sum.inr a : Key) = Sum.inr b := fun q => e (Sum.inr.inj q)
    rw [decide_eq_false h, decide_eq_false e]
theorem key_lr (a : Int) (b : Str) : decide ((Sum.inl a : Key) = Sum.inr b) = false := decide_eq_false (fun q => nomatch q)
theorem key_rl (a : Str) (b : Int) : decide ((Sum.inr a : Key) = Sum.inl b) = false := decide_eq_false (fun q => nomatch q)

noncomputable def mixKind (prog : Program) (w : World) : PySem.KeyKind prog w Key where
  is := keyIs
  hash := keyH w
  inj := fun v a b ha hb => by
    rcases keyIs_shape ha with ⟨i, t, rfl, rfl⟩ | ⟨x, t, rfl, rfl⟩
    · rcases keyIs_shape hb with ⟨j, u, rfl, e⟩ | ⟨y, u, rfl, e⟩
      · injection e with e1 _; rw [e1]
      · exact nomatch e
    · rcases keyIs_shape hb with ⟨j, u, rfl, e⟩ | ⟨y, u, rfl, e⟩
      · exact nomatch e
      · injection e with e1 _; rw [e1]
  byValue := fun k v h => by
    rcases keyIs_shape h with ⟨i, t, rfl, rfl⟩ | ⟨x, t, rfl, rfl⟩ <;> rfl
  pyHash := fun hv h => by
    rcases keyIs_shape hv with ⟨i, t, rfl, rfl⟩ | ⟨x, t, rfl, rfl⟩
    · exact wpAny_pyHash_int h
    · exact wpAny_pyHash_str h
  eqBool := fun hu hv h => by
    rcases keyIs_shape hu with ⟨i, t, rfl, rfl⟩ | ⟨x, t, rfl, rfl⟩
    · rcases keyIs_shape hv with ⟨j, u, rfl, rfl⟩ | ⟨y, u, rfl, rfl⟩
      · rw [key_ll] at h; exact wpAny_eqBool_int h
      · rw [key_lr] at h; exact SeqAt.EqAt.int_str i t y u _ _ _ _ h
    · rcases keyIs_shape hv with ⟨j, u, rfl, rfl⟩ | ⟨y, u, rfl, rfl⟩
      · rw [key_rl] at h; exact SeqAt.EqAt.str_int x t j u _ _ _ _ h
      · rw [key_rr] at h; exact wpAny_eqBool_str h
  «strs» := fun k x t v h => by
    rcases keyIs_shape h with ⟨i, u, rfl, e⟩ | ⟨y, u, rfl, e⟩
    · exact nomatch e
    · injection e with e1 _
      subst e1
      cases v <;> rfl

end L2

namespace L2
open PySem PySem.Spec PyProof.Rows

/-- a value, without the heap -/
inductive V where
  | non | bl (b : Bool) | int (i : Int) | str (x : Str) | byt (b : Array UInt8) | flt (b : UInt64) | ref (a : Addr) | ty (n : String)
  deriving DecidableEq

noncomputable def RelV : V → Value → Prop
  | .non, u => u = Value.none
  | .bl b, u => u = Value.bool b
  | .int i, u => ∃ t, u = Value.int i t
  | .str x, u => ∃ t, u = Value.str x t
  | .byt b, u => ∃ t, u = Value.bytes b t
  | .flt b, u => ∃ t, u = Value.float b t
  | .ref a, u => u = Value.ref a
  | .ty n, u => u = Value.type n

noncomputable abbrev Vals : List V → List Value → Prop := Paired RelV
theorem Vals.length {xs : List V} {us : List Value} (r : Vals xs us) : xs.length = us.length := Paired.length r
theorem Vals.get : ∀ {xs : List V} {us : List Value} {i : Nat} {x : V}, Vals xs us → xs[i]? = some x → ∃ u, us[i]? = some u ∧ RelV x u
  | _, _, _, _, .nil, e => by simp at e
  | _, _, 0, _, .cons r _, e => by simp at e; subst e; exact ⟨_, rfl, r⟩
  | _, _, i + 1, x, .cons _ t, e => by
    obtain ⟨u, h1, h2⟩ := Vals.get (i := i) (x := x) t (by simpa using e)
    exact ⟨u, by simpa using h1, h2⟩
theorem Vals.set {x : V} {u : Value} (r : RelV x u) : ∀ {xs : List V} {us : List Value} (i : Nat), Vals xs us → Vals (xs.set i x) (us.set i u)
  | _, _, _, .nil => .nil
  | _, _, 0, .cons _ t => .cons r t
  | _, _, i + 1, .cons q t => .cons q (Vals.set r i t)
theorem Vals.append : ∀ {xs ys : List V} {us ws : List Value}, Vals xs us → Vals ys ws → Vals (xs ++ ys) (us ++ ws)
  | _, _, _, _, .nil, s => s
  | _, _, _, _, .cons r t, s => .cons r (Vals.append t s)
noncomputable def RelO : Option V → Option Value → Prop
  | some v, some u => RelV v u
  | none, none => True
  | _, _ => False
noncomputable def KV {κ : Type} : List (κ × V) → List (κ × Value) → Prop := Paired fun (p : κ × V) (q : κ × Value) => p.1 = q.1 ∧ RelV p.2 q.2

/-- a key of a dict (00_mix): an int or a text -/
noncomputable def kV : Key → V
  | .inl i => .int i
  | .inr x => .str x

/-- what stands at a tracked address -/
inductive HO where
  /-- a list -/
  | lst (xs : List V)
  /-- a tuple (never changes) -/
  | tup (xs : List V)
  /-- a dict whose keys are ints and texts; one whose keys are tuples of ints and texts (the empty one is both) -/
  | dK (kvs : List (Key × V)) | dT (kvs : List (List Key × V))
  /-- a set of ints: its members, its size -/
  | set (S : Int → Bool) (n : Nat)
  /-- an instance of the class at C, its dict at dx, its attributes -/
  | ins (C dx : Addr) (fs : List (Str × V))
  /-- the dict of the instance at x -/
  | own (x : Addr)
  /-- the dict of an exception -/
  | xd (fs : List (Str × V))
  /-- a bound method, f of x -/
  | met (f x : Addr)
  /-- a range object lo, lo + 1, .. below hi -/
  | rng (lo hi : Int)
  /-- a thing that is known to the object (the script; a dict while a loop walks it): read, never written while it is so -/
  | frz (o : Obj) (u : HO)
  /-- a code object's table -/
  | tbl (ps : Array Value)
  /-- any other thing, by what is true of its one object (a def of one's own: SetO a S n := HO.ext fun h => ..) -/
  | ext (φ : Heap → Prop)

noncomputable abbrev Hp := Addr → Option HO
noncomputable def upd (H : Hp) (a : Addr) (o : HO) : Hp := fun b => if b = a then some o else H b
theorem upd_same {H : Hp} {a : Addr} {o : HO} : upd H a o a = some o := by unfold upd; rw [if_pos rfl]
theorem upd_ne {H : Hp} {a b : Addr} {o : HO} (h : b ≠ a) : upd H a o b = H b := by unfold upd; rw [if_neg h]
theorem ne_of_none {H : Hp} {a b : Addr} {o : HO} (h : H a = some o) (h' : H b = none) : a ≠ b := by
  intro e; subst e; rw [h] at h'; cases h'

section
variable (P : Program) (w : World)
noncomputable def ObjOk (H : Hp) (h : Heap) (a : Addr) : HO → Prop
  | .lst xs => xs.length ≤ sizeLine ∧ ∃ (its : List Value) (n : Nat), Vals xs its ∧ h.get? a = some { cls := .type "list", data := .seq its.toArray n }
  | .tup xs => xs.length ≤ sizeLine ∧ ∃ its : List Value, Vals xs its ∧ IsTup h a its.toArray
  | .dK kvs => kvs.length ≤ sizeLine ∧ (a == sysModules) = false ∧ ∃ vs, KV kvs vs ∧ h.DictOf (mixKind P w) a vs
  | .dT kvs => kvs.length ≤ sizeLine ∧ (a == sysModules) = false ∧ ∃ xs : List (List Key × Addr × Value),
      Paired (fun (p : List Key × V) (q : List Key × Addr × Value) => p.1 = q.1 ∧ H q.2.1 = some (.tup (p.1.map kV)) ∧ RelV p.2 q.2.2) kvs xs ∧
      ∃ o es ep, h.get? a = some o ∧ o.ExactDict ∧ o.data = .dict es ep ∧ es.toList = xs.map (entryOfKey (tupleKind (mixKind P w))) ∧ (xs.map (·.1)).Nodup
  | .set S n => h.SetOf (intKind P w) a S n
  | .ins C dx fs => H dx = some (.own a) ∧ fs.length ≤ 1000 ∧ dx ≠ a ∧ h.get? a = some (PySem.W.instObj C dx) ∧
      ∃ mA, h.Ns1 dx mA ∧ (∀ f, RelO (fs.lookup f) (mA f)) ∧ PySem.Within mA (fs.map (·.1))
  | .own _ => ∃ o, h.get? a = some o
  | .xd fs => ∃ mA, h.Ns1 a mA ∧ ∀ f, RelO (fs.lookup f) (mA f)
  | .rng lo hi => ∃ t u v, h.get? a = some { cls := .type "range", data := .fields #[.int lo t, .int hi u, .int 1 v] }
  | .frz o u => h.get? a = some o ∧ ObjOk H h a u
  | .tbl ps => h.get? a = some { cls := .none, data := .fields ps }
  | .met f x => h.get? a = some (PySem.W.methodObj (.ref f) (.ref x))
  | .ext φ => φ h ∧ (∃ o, h.get? a = some o) ∧ ∀ h1 h2 : Heap, φ h1 → (∀ o, h1.get? a = some o → h2.get? a = some o) → φ h2
/-- the abstract heap is held -/
noncomputable def HOk (H : Hp) (h : Heap) : Prop := ∀ a o, H a = some o → ObjOk P w H h a o
end

section
variable {P : Program} {w : World} {H H' : Hp} {h h' : Heap} {a : Addr} {o : HO}
theorem ObjOk.lt (x : ObjOk P w H h a o) : a < h.objs.size := by
  cases o with
  | lst xs => obtain ⟨_, _, _, _, e⟩ := x; exact Heap.lt_size e
  | tup xs => obtain ⟨_, _, _, p⟩ := x; exact p.lt
  | dK kvs => obtain ⟨_, _, _, _, o, _, _, e, _⟩ := x; exact Heap.lt_size e
  | dT kvs => obtain ⟨_, _, _, _, o, _, _, e, _⟩ := x; exact Heap.lt_size e
  | set S n => obtain ⟨o, _, _, _, e, _⟩ := x; exact Heap.lt_size e
  | ins C dx fs => obtain ⟨_, _, _, e, _⟩ := x; exact Heap.lt_size e
  | own y => obtain ⟨_, e⟩ := x; exact Heap.lt_size e
  | xd fs => obtain ⟨_, ⟨_, _, _, e, _⟩, _⟩ := x; exact Heap.lt_size e
  | rng lo hi => obtain ⟨_, _, _, e⟩ := x; exact Heap.lt_size e
  | frz ob u => obtain ⟨e, _⟩ := x; exact Heap.lt_size e
  | tbl ps => exact Heap.lt_size (show h.get? a = some _ from x)
  | met f y => exact Heap.lt_size (show h.get? a = some _ from x)
  | ext φ => obtain ⟨_, ⟨_, e⟩, _⟩ := x; exact Heap.lt_size e
theorem Paired.mapP {α β : Type} {F G : α → β → Prop} : ∀ {l₁ : List α} {l₂ : List β}, Paired F l₁ l₂ → (∀ a b, F a b → G a b) → Paired G l₁ l₂
  | _, _, .nil, _ => .nil
  | _, _, .cons r t, f => .cons (f _ _ r) (Paired.mapP t f)
/-- what an object's description leans on: its own object, its own dict, the tuples -/
theorem ObjOk.stay (x : ObjOk P w H h a o) (k : ∀ b u, (b = a ∨ H b = some (.own a)) → h.get? b = some u → h'.get? b = some u)
    (ho : ∀ b, H b = some (.own a) → H' b = some (.own a)) (ht : ∀ b xs, H b = some (.tup xs) → H' b = some (.tup xs)) : ObjOk P w H' h' a o := by
  induction o with
  | lst xs => obtain ⟨z, its, n, r, e⟩ := x; exact ⟨z, its, n, r, k _ _ (.inl rfl) e⟩
  | tup xs => obtain ⟨z, its, r, ob, e, c⟩ := x; exact ⟨z, its, r, ob, k _ _ (.inl rfl) e, c⟩
  | dK kvs => obtain ⟨z, y, vs, r, ob, es, ep, e, c⟩ := x; exact ⟨z, y, vs, r, ob, es, ep, k _ _ (.inl rfl) e, c⟩
  | dT kvs =>
    obtain ⟨z, y, xs, r, ob, es, ep, e, c⟩ := x
    exact ⟨z, y, xs, Paired.mapP r fun p q z => ⟨z.1, ht _ _ z.2.1, z.2.2⟩, ob, es, ep, k _ _ (.inl rfl) e, c⟩
  | set S n => obtain ⟨ob, es, ep, t, e, c⟩ := x; exact ⟨ob, es, ep, t, k _ _ (.inl rfl) e, c⟩
  | ins C dx fs =>
    obtain ⟨d, z, ne, e, mA, ⟨od, es, ep, e2, c⟩, r⟩ := x
    exact ⟨ho _ d, z, ne, k _ _ (.inl rfl) e, mA, ⟨od, es, ep, k _ _ (.inr d) e2, c⟩, r⟩
  | own y => obtain ⟨ob, e⟩ := x; exact ⟨ob, k _ _ (.inl rfl) e⟩
  | xd fs => obtain ⟨mA, ⟨od, es, ep, e, c⟩, r⟩ := x; exact ⟨mA, ⟨od, es, ep, k _ _ (.inl rfl) e, c⟩, r⟩
  | rng lo hi => obtain ⟨t, u, v, e⟩ := x; exact ⟨t, u, v, k _ _ (.inl rfl) e⟩
  | frz ob u ih => obtain ⟨e, q⟩ := x; exact ⟨k _ _ (.inl rfl) e, ih q⟩
  | tbl ps =>
    have e : h.get? a = some { cls := .none, data := .fields ps } := x
    show h'.get? a = some { cls := .none, data := .fields ps }
    exact k a _ (.inl rfl) e
  | met f y =>
    have e : h.get? a = some (PySem.W.methodObj (.ref f) (.ref y)) := x
    show h'.get? a = some (PySem.W.methodObj (.ref f) (.ref y))
    exact k a _ (.inl rfl) e
  | ext φ => obtain ⟨p, ⟨o, e⟩, st⟩ := x; exact ⟨st _ _ p fun o q => k _ _ (.inl rfl) q, ⟨o, k _ _ (.inl rfl) e⟩, st⟩
theorem HOk.lt (x : HOk P w H h) (e : H a = some o) : a < h.objs.size := (x a o e).lt
theorem HOk.fresh (x : HOk P w H h) (e : h.objs.size ≤ a) : H a = none := by
  cases q : H a with
  | none => rfl
  | some u => exact absurd (Nat.lt_of_lt_of_le (x.lt q) e) (Nat.lt_irrefl _)
/-- every object of the heap is kept -/
theorem HOk.kept (x : HOk P w H h) (k : ∀ b u, h.get? b = some u → h'.get? b = some u) : HOk P w H h' := fun a o e =>
  (x a o e).stay (fun b u _ q => k b u q) (fun _ q => q) fun _ _ q => q
/-- a new object is laid and tracked -/
theorem HOk.laid (x : HOk P w H h) (k : ∀ b u, h.get? b = some u → h'.get? b = some u) (hp : h.objs.size ≤ a) (new : ObjOk P w (upd H a o) h' a o) : HOk P w (upd H a o) h' := fun b u e => by
  have hn := x.fresh hp
  by_cases hb : b = a
  · subst hb; rw [upd_same] at e; cases e; exact new
  · rw [upd_ne hb] at e
    exact (x b u e).stay (fun c v _ q => k c v q) (fun c q => by rw [upd_ne (ne_of_none q hn)]; exact q) fun c xs q => by rw [upd_ne (ne_of_none q hn)]; exact q
end

/-- what may be read as u: it is u, or a known u -/
noncomputable def Rd (H : Hp) (a : Addr) (u : HO) : Prop := H a = some u ∨ ∃ o, H a = some (.frz o u)
theorem Rd.ok {P : Program} {w : World} {H : Hp} {h : Heap} {a : Addr} {u : HO} (r : Rd H a u) (x : HOk P w H h) : ObjOk P w H h a u := by
  rcases r with r | ⟨o, r⟩
  · exact x a u r
  · obtain ⟨_, q⟩ := x a _ r
    exact q
/-- what may be written -/
noncomputable def Mut : Option HO → Prop
  | some (.lst _) => True
  | some (.dK _) => True
  | some (.dT _) => True
  | some (.set _ _) => True
  | some (.ins _ _ _) => True
  | some (.ext _) => True
  | _ => False
section
variable {P : Program} {w : World} {H : Hp} {h h' : Heap} {x e : Addr} {o' : HO}
/-- the object at e is changed: x itself, or the dict of the instance x -/
theorem HOk.write (ok : HOk P w H h) (mu : Mut (H x)) (he : e = x ∨ H e = some (.own x)) (k : ∀ b u, b ≠ e → h.get? b = some u → h'.get? b = some u) (heo : ∃ u, h'.get? e = some u)
    (new : ObjOk P w (upd H x o') h' x o') : HOk P w (upd H x o') h' := fun b u q => by
  have nown : ∀ c y, H c = some (.own y) → c ≠ x := fun c y r z => by subst z; rw [r] at mu; exact mu
  have ntup : ∀ c xs, H c = some (.tup xs) → c ≠ x := fun c xs r z => by subst z; rw [r] at mu; exact mu
  by_cases hb : b = x
  · subst hb; rw [upd_same] at q; cases q; exact new
  · rw [upd_ne hb] at q
    by_cases hbe : b = e
    · have q' : H b = some (.own x) := by
        rcases he with z | z
        · exact absurd (hbe.trans z) hb
        · rw [hbe]; exact z
      rw [q] at q'; cases q'
      obtain ⟨v, hv⟩ := heo
      exact ⟨v, by rw [hbe]; exact hv⟩
    · refine (ok b u q).stay (fun c v hc r => k c v ?_ r) (fun c r => by rw [upd_ne (nown c b r)]; exact r) fun c xs r => by rw [upd_ne (ntup c xs r)]; exact r
      rcases hc with rfl | hc
      · exact hbe
      · rintro rfl
        rcases he with z | z
        · exact nown c b hc z
        · rw [hc] at z; cases z; exact hb rfl
end

/-! ### kept unless tracked; of the frames at fs (the callers') the slots may change (an exception that passes writes there); of the records at ex (iterators) nothing is said -/
structure Un (fs ex : List Addr) (H H' : Hp) (h h' : Heap) : Prop where
  keep : ∀ b o, h.get? b = some o → H b = none → b ∉ fs → b ∉ ex → h'.get? b = some o
  slot : ∀ b o, h.get? b = some o → H b = none → b ∈ fs → b ∉ ex → ∃ sl, h'.get? b = some { o with slots := sl }
  free : ∀ b o, h.get? b = some o → H b = none → b ∉ ex → H' b = none
  there : ∀ b o, h.get? b = some o → b ∉ ex → ∃ o', h'.get? b = some o'
  tups : ∀ b xs, H b = some (.tup xs) → H' b = some (.tup xs)
  frzs : ∀ b o u, H b = some (.frz o u) → H' b = some (.frz o u)
  tbls : ∀ b ps, H b = some (.tbl ps) → ∃ more, H' b = some (.tbl (ps ++ more))
section
variable {fs fs' ex ex' : List Addr} {H H1 H2 : Hp} {h h1 h2 h' : Heap} {a x e : Addr} {o : HO}
theorem Un.any (u : Un fs ex H H1 h h1) {b : Addr} {ob : Obj} (q : h.get? b = some ob) (n : H b = none) (hx : b ∉ ex) : ∃ sl, h1.get? b = some { ob with slots := sl } := by
  by_cases hb : b ∈ fs
  · exact u.slot b ob q n hb hx
  · exact ⟨ob.slots, u.keep b ob q n hb hx⟩
theorem Un.kept (k : ∀ b u, h.get? b = some u → h'.get? b = some u) : Un fs ex H H h h' :=
  ⟨fun b ob q _ _ _ => k b ob q, fun b ob q _ _ _ => ⟨ob.slots, k b ob q⟩, fun _ _ _ n _ => n, fun b ob q _ => ⟨ob, k b ob q⟩, fun _ _ q => q, fun _ _ _ q => q, fun _ ps q => ⟨#[], by rw [q]; simp⟩⟩
theorem Un.refl : Un fs ex H H h h := Un.kept fun _ _ q => q
theorem Un.laid (k : ∀ b u, h.get? b = some u → h'.get? b = some u) (hp : h.objs.size ≤ a) (hn : H a = none) : Un fs ex H (upd H a o) h h' where
  keep := fun b u q _ _ _ => k b u q
  slot := fun b u q _ _ _ => ⟨u.slots, k b u q⟩
  free := fun b u q n _ => by rw [upd_ne (Nat.ne_of_lt (Nat.lt_of_lt_of_le (Heap.lt_size q) hp))]; exact n
  there := fun b u q _ => ⟨u, k b u q⟩
  tups := fun b xs q => by rw [upd_ne (ne_of_none q hn)]; exact q
  frzs := fun b u xs q => by rw [upd_ne (ne_of_none q hn)]; exact q
  tbls := fun b ps q => ⟨#[], by rw [upd_ne (ne_of_none q hn), q]; simp⟩
theorem Un.write (mu : Mut (H x)) (he : e = x ∨ H e = some (.own x)) (k : ∀ b u, b ≠ e → h.get? b = some u → h'.get? b = some u) (heo : ∃ u, h'.get? e = some u) : Un fs ex H (upd H x o) h h' := by
  have hx : ∀ b, H b = none → b ≠ x := fun b n z => by subst z; rw [n] at mu; exact mu
  have hb : ∀ b, H b = none → b ≠ e := fun b n z => by
    subst z
    rcases he with r | r
    · exact hx b n r
    · rw [n] at r; cases r
  have hm : ∀ b u, H b = some u → ¬ Mut (some u) → b ≠ x := fun b u q nm z => by subst z; rw [q] at mu; exact nm mu
  refine ⟨fun b u q n _ _ => k b u (hb b n) q, fun b u q n _ _ => ⟨u.slots, k b u (hb b n) q⟩, fun b u q n _ => by rw [upd_ne (hx b n)]; exact n, fun b u q _ => ?_,
    fun b xs q => by rw [upd_ne (hm b _ q fun z => z)]; exact q, fun b u xs q => by rw [upd_ne (hm b _ q fun z => z)]; exact q, fun b ps q => ⟨#[], by rw [upd_ne (hm b _ q fun z => z), q]; simp⟩⟩
  by_cases hbe : b = e
  · subst hbe; exact heo
  · exact ⟨u, k b u hbe q⟩
end

/-! ### the heap without what is tracked -/
noncomputable def trk (h : Heap) (H : Hp) : List Addr := (List.range h.objs.size).filter fun a => (H a).isSome
noncomputable def hidT (h : Heap) (H : Hp) : Heap := PySem.W.hideAll h (trk h H)
theorem hidT_size (h : Heap) (H : Hp) : (hidT h H).objs.size = h.objs.size := PySem.W.hideAll_size _ _
theorem hidT_get {h : Heap} {H : Hp} {b : Addr} {o : Obj} (e : h.get? b = some o) (n : H b = none) : (hidT h H).get? b = some o :=
  PySem.W.hideAll_get _ e fun hm => by
    have q : (H b).isSome = true := (List.mem_filter.mp hm).2
    rw [n] at q; simp at q
theorem of_hidT {h : Heap} {H : Hp} {b : Addr} {o : Obj} (e : (hidT h H).get? b = some o) : h.get? b = some o ∧ H b = none := by
  have e' : h.get? b = some o := PySem.W.of_hideAll (trk h H) e
  refine ⟨e', ?_⟩
  cases q : H b with
  | none => rfl
  | some x =>
    have hm : b ∈ trk h H := List.mem_filter.mpr ⟨List.mem_range.mpr (Heap.lt_size e'), by simp [q]⟩
    have z : (hidT h H).get? b = none := PySem.W.hideAll_none (trk h H) hm
    rw [z] at e; cases e

/-! ### OpenK's ledger, filled with every new object but one -/
end L2

namespace L2
open PySem PySem.Spec PyProof.Rows

/-- the module's facts, over the base: the heap at the law's entry without what is tracked there -/
structure Mod (K : PySem.W.Frag) (mg : Str → Option Value) (base : Heap) : Prop where
  kin : K.In base
  glob : base.Ns mainGlobals mg
  blt : ∃ mb, base.Ns builtinsNs mb ∧ ∀ x : Str, x ≠ "__name__" → mb x = bootBuiltins x
  nolimit : base.NoLimit

/-- the context: a def's body (or a comprehension's block) running. base: fixed through the whole law; s₀, H₀: the entry; outer: the frames whose slots others may change (a def's callers); stack: all frames that run;
   ex: iterators that were made ahead of the entry and are walked here (a comprehension's); fn: the names whose cells were made at the entry (a def: all; a comprehension's block: its own); calm: not within an except suite; pn: pins that every state bears; xe: what is wanted of an exception that leaves the code -/
structure Cx where
  prog : Program
  w : World
  K : PySem.W.Frag
  mg : Str → Option Value
  base : Heap
  A : Around
  N : List Str
  s₀ : Shared
  H₀ : Hp
  env : Env
  outer : List Env
  stack : List Env
  ex : List Addr
  fn : Str → Bool
  calm : Bool
  pn : List (Addr × Obj)
  xe : Value → Shared → Prop
/-- the callers' frames -/
noncomputable def frs (l : List Env) : List Addr := l.filterMap (·.frame)
noncomputable abbrev Cx.fs (X : Cx) : List Addr := frs X.outer

noncomputable def Vis (sc : Scope) (x : Str) : Prop := sc.names.lookup x = some .local ∨ sc.names.lookup x = some .cell ∨ sc.names.lookup x = some .free
noncomputable def Loc (sc : Scope) (x : Str) : Prop := sc.names.lookup x = some .local ∨ sc.names.lookup x = some .cell
noncomputable def Look (env : Env) (h : Heap) (m : Str → Option Value) (x : Str) (u : Value) : Prop :=
  (env.kindOf x = some .local ∧ m x = some u) ∨ ((env.kindOf x = some .cell ∨ env.kindOf x = some .free) ∧ ∃ c, env.cells.lookup x = some c ∧ h.IsCell c (some u))

structure Cx.Ok (X : Cx) : Prop where
  mod : Mod X.K X.mg X.base
  kind : X.env.scope.kind = .function
  glob : X.env.globals = mainGlobals
  blt : X.env.builtins = builtinsNs
  above : X.s₀.heap.objs.size ≤ X.env.locals
  inj : ∀ x y c, X.env.cells.lookup x = some c → X.env.cells.lookup y = some c → x = y
  has : ∀ x, (X.env.kindOf x = some .cell ∨ X.env.kindOf x = some .free) → ∃ c, X.env.cells.lookup x = some c
  cab : ∀ x c, X.fn x = true → X.env.cells.lookup x = some c → X.s₀.heap.objs.size ≤ c
  hd : X.calm = true → X.A.handled = none
  frames : X.A.frames = some X.stack
  stk : X.stack = X.outer ∨ (X.stack = X.env :: X.outer ∧ X.env.frame = some X.env.locals)
  exf : ∀ b ∈ X.ex, b ≠ X.env.locals ∧ ∀ x c, X.env.cells.lookup x = some c → c ≠ b
  bs : ∀ b o, X.base.get? b = some o → X.s₀.heap.get? b = some o ∧ X.H₀ b = none
  bsz : X.base.objs.size ≤ X.s₀.heap.objs.size
  noex : ∀ b o, X.base.get? b = some o → b ∉ X.ex
  exfs : ∀ b ∈ X.ex, b ∉ X.fs
  funs : X.s₀.heap.FunFrames X.base X.outer
  frf : ∀ b ∈ X.fs, X.H₀ b = none

structure Inv (X : Cx) (pins : List (Addr × Obj)) (σ : List (Option V)) (H : Hp) (s : Shared) : Prop where
  ok : X.Ok
  os : s.os = X.s₀.os
  bare : AllBare s.gens
  base : Un X.fs X.ex X.H₀ H X.s₀.heap s.heap
  loc : ∃ m, s.heap.Ns X.env.locals m ∧ ∀ (i : Nat) (x : Str) (v : V), X.N[i]? = some x → σ[i]? = some (some v) → Vis X.env.scope x → ∃ u, RelV v u ∧ Look X.env s.heap m x u
  cell : ∀ x c, X.env.cells.lookup x = some c → ∃ v, s.heap.IsCell c v
  free : H X.env.locals = none
  freeC : ∀ x c, X.env.cells.lookup x = some c → H c = none
  pin : ∀ p ∈ X.pn ++ pins, s.heap.get? p.1 = some p.2 ∧ H p.1 = none ∧ p.1 ≠ X.env.locals ∧ p.1 ∉ X.fs ∧ ∀ v, p.2.data ≠ .cell v
  hok : HOk X.prog X.w H s.heap
  len : σ.length = X.N.length

section
variable {X : Cx} {pins : List (Addr × Obj)} {σ : List (Option V)} {H H' : Hp} {s : Shared} {h' : Heap}

theorem Cx.Ok.nofr (ok : X.Ok) {b : Addr} {o : Obj} (e : X.base.get? b = some o) : b ∉ X.fs := fun hb => by
  have := (ok.funs.mem hb).1
  rw [e] at this; cases this
theorem Inv.bs (I : Inv X pins σ H s) : ∀ b o, X.base.get? b = some o → s.heap.get? b = some o ∧ H b = none := fun b o e =>
  ⟨I.base.keep b o (I.ok.bs b o e).1 (I.ok.bs b o e).2 (I.ok.nofr e) (I.ok.noex b o e), I.base.free b o (I.ok.bs b o e).1 (I.ok.bs b o e).2 (I.ok.noex b o e)⟩
theorem Inv.bk (I : Inv X pins σ H s) : ∀ b o, X.base.get? b = some o → s.heap.get? b = some o := fun b o e => (I.bs b o e).1
theorem Inv.mod (I : Inv X pins σ H s) : Mod X.K X.mg X.base := I.ok.mod
theorem Inv.kIn (I : Inv X pins σ H s) : X.K.In s.heap := I.ok.mod.kin.keeps I.bk
theorem Inv.lt (I : Inv X pins σ H s) : X.env.locals < s.heap.objs.size := let ⟨_, hn, _⟩ := I.loc; hn.lt
theorem Inv.sz (I : Inv X pins σ H s) : X.s₀.heap.objs.size ≤ s.heap.objs.size := Nat.le_trans I.ok.above (Nat.le_of_lt I.lt)
theorem Inv.nofs (I : Inv X pins σ H s) {a : Addr} (h : s.heap.objs.size ≤ a) : a ∉ X.fs := fun hb => by
  obtain ⟨_, o, ho, _⟩ := I.ok.funs.mem hb
  exact absurd (Nat.lt_of_lt_of_le (Heap.lt_size ho) (Nat.le_trans I.sz h)) (Nat.lt_irrefl _)
theorem Inv.cne (I : Inv X pins σ H s) : ∀ x c, X.env.cells.lookup x = some c → c ≠ X.env.locals := fun x c e z => by
  obtain ⟨v, o, ho, hd⟩ := I.cell x c e
  obtain ⟨m, ⟨o', es, ep, ho', hd', _⟩, _⟩ := I.loc
  rw [z, ho'] at ho; cases ho; rw [hd'] at hd; cases hd
theorem Inv.funs (I : Inv X pins σ H s) : s.heap.FunFrames X.base X.outer := by
  have all : ∀ (l : List Env), (∀ b ∈ frs l, b ∈ X.fs) → X.s₀.heap.FunFrames X.base l → s.heap.FunFrames X.base l := by
    intro l
    induction l with
    | nil => intro _ _; trivial
    | cons env r ih =>
      intro hs hl
      obtain ⟨hk, ⟨L, o, hf, hn, ho, hd⟩, hr⟩ := hl
      have hL : L ∈ X.fs := hs L (by unfold frs; rw [List.filterMap_cons, hf]; exact List.mem_cons_self)
      obtain ⟨sl, e⟩ := I.base.slot L o ho (I.ok.frf L hL) hL fun z => I.ok.exfs L z hL
      exact ⟨hk, ⟨L, _, hf, hn, e, hd⟩, ih (fun b hb => hs b (by unfold frs; rw [List.filterMap_cons, hf]; exact List.mem_cons_of_mem _ hb)) hr⟩
  exact all X.outer (fun _ hb => hb) I.ok.funs

/-- the frames that run, for a call -/
theorem Inv.stack (I : Inv X pins σ H s) : s.heap.FunFrames X.base X.stack := by
  rcases I.ok.stk with e | ⟨e, hf⟩
  · rw [e]; exact I.funs
  · rw [e]
    obtain ⟨m, hn, _⟩ := I.loc
    refine .cons (by rw [I.ok.kind]; decide) hf hn ?_ I.funs
    exact Heap.get?_none_of_le (Nat.le_trans I.ok.bsz I.ok.above)
theorem Inv.stkSub (I : Inv X pins σ H s) : ∀ b ∈ frs X.stack, b ∈ X.env.locals :: X.fs := fun b hb => by
  rcases I.ok.stk with e | ⟨e, hf⟩
  · rw [e] at hb; exact List.mem_cons_of_mem _ hb
  · rw [e] at hb
    unfold frs at hb
    rw [List.filterMap_cons, hf] at hb
    exact hb
theorem Inv.stkFree (I : Inv X pins σ H s) : ∀ b ∈ frs X.stack, H b = none := fun b hb => by
  rcases List.mem_cons.mp (I.stkSub b hb) with e | hb
  · rw [e]; exact I.free
  · obtain ⟨_, o, ho, _⟩ := I.ok.funs.mem hb
    exact I.base.free b o ho (I.ok.frf b hb) fun z => I.ok.exfs b z hb

/-- THE STEP: the untracked objects but the frame and the records at ch are kept (the callers' frames up to slots), the frame's map is kept, the new abstract heap is held -/
theorem Inv.step {g' : Array GenState} {t' : Nat} {d' : Drawn} {ch : List Addr} (I : Inv X pins σ H s)
    (hch : ∀ b ∈ ch, (b ∈ X.ex ∨ X.s₀.heap.objs.size ≤ b) ∧ b ≠ X.env.locals ∧ (∀ x c, X.env.cells.lookup x = some c → c ≠ b) ∧ ∀ p ∈ X.pn ++ pins, p.1 ≠ b)
    (keep : ∀ b o, b ≠ X.env.locals → b ∉ X.fs → b ∉ ch → s.heap.get? b = some o → H b = none → h'.get? b = some o)
    (slot : ∀ b o, b ≠ X.env.locals → b ∈ X.fs → b ∉ ch → s.heap.get? b = some o → H b = none → ∃ sl, h'.get? b = some { o with slots := sl }) (free : ∀ b o, b ∉ ch → s.heap.get? b = some o → H b = none → H' b = none)
    (there : ∀ b o, b ∉ ch → s.heap.get? b = some o → ∃ o', h'.get? b = some o')
    (tups : ∀ b xs, H b = some (.tup xs) → H' b = some (.tup xs)) (frzs : ∀ b o u, H b = some (.frz o u) → H' b = some (.frz o u)) (tbls : ∀ b ps, H b = some (.tbl ps) → ∃ more, H' b = some (.tbl (ps ++ more)))
    (ns : ∀ m, s.heap.Ns X.env.locals m → h'.Ns X.env.locals m) (hok : HOk X.prog X.w H' h') (hg : AllBare g') :
    Inv X pins σ H' { s with heap := h', gens := g', drawn := d', toks := t' } := by
  have neL : ∀ b o, X.s₀.heap.get? b = some o → b ≠ X.env.locals := fun b o e => Nat.ne_of_lt (Nat.lt_of_lt_of_le (Heap.lt_size e) I.ok.above)
  have neC : ∀ b o, X.s₀.heap.get? b = some o → b ∉ X.ex → b ∉ ch := fun b o e hx hb => by
    rcases (hch b hb).1 with z | z
    · exact hx z
    · exact absurd (Nat.lt_of_lt_of_le (Heap.lt_size e) z) (Nat.lt_irrefl _)
  have cellK : ∀ x c, X.env.cells.lookup x = some c → ∀ v, s.heap.IsCell c v → h'.IsCell c v := fun x c e v ⟨o, ho, hd⟩ => by
    have nch : c ∉ ch := fun z => (hch c z).2.2.1 x c e rfl
    by_cases hc : c ∈ X.fs
    · obtain ⟨sl, q⟩ := slot c o (I.cne x c e) hc nch ho (I.freeC x c e)
      exact ⟨_, q, hd⟩
    · exact ⟨o, keep c o (I.cne x c e) hc nch ho (I.freeC x c e), hd⟩
  refine ⟨I.ok, I.os, hg, ⟨fun b o e n hb hx => ?_, fun b o e n hb hx => ?_, fun b o e n hx => ?_, fun b o e hx => ?_, fun b xs e => tups b xs (I.base.tups b xs e), fun b o xs e => frzs b o xs (I.base.frzs b o xs e), fun b ps e => ?_⟩, ?_, fun x c e => ?_, ?_, fun x c e => ?_, fun p hp => ?_, hok, I.len⟩
  · exact keep b o (neL b o e) hb (neC b o e hx) (I.base.keep b o e n hb hx) (I.base.free b o e n hx)
  · obtain ⟨sl, e1⟩ := I.base.slot b o e n hb hx
    obtain ⟨sl', e2⟩ := slot b _ (neL b o e) hb (neC b o e hx) e1 (I.base.free b o e n hx)
    exact ⟨sl', e2⟩
  · obtain ⟨o', e1⟩ := I.base.there b o e hx
    exact free b o' (neC b o e hx) e1 (I.base.free b o e n hx)
  · obtain ⟨o', e1⟩ := I.base.there b o e hx
    exact there b o' (neC b o e hx) e1
  · obtain ⟨m1, e1⟩ := I.base.tbls b ps e
    obtain ⟨m2, e2⟩ := tbls b _ e1
    exact ⟨m1 ++ m2, by rw [e2, Array.append_assoc]⟩
  · obtain ⟨m, hn, hl⟩ := I.loc
    refine ⟨m, ns m hn, fun i x v e1 e2 e3 => ?_⟩
    obtain ⟨u, r, l⟩ := hl i x v e1 e2 e3
    refine ⟨u, r, ?_⟩
    rcases l with l | ⟨k, c, e, z⟩
    · exact .inl l
    · exact .inr ⟨k, c, e, cellK x c e _ z⟩
  · obtain ⟨v, z⟩ := I.cell x c e
    exact ⟨v, cellK x c e v z⟩
  · obtain ⟨m, ⟨o, _, _, ho, _⟩, _⟩ := I.loc
    exact free _ o (fun z => (hch _ z).2.1 rfl) ho I.free
  · obtain ⟨v, o, ho, hd⟩ := I.cell x c e
    exact free c o (fun z => (hch c z).2.2.1 x c e rfl) ho (I.freeC x c e)
  · obtain ⟨e, n, ne, nf, d⟩ := I.pin p hp
    have nch : p.1 ∉ ch := fun z => (hch p.1 z).2.2.2 p hp rfl
    exact ⟨keep p.1 p.2 ne nf nch e n, free p.1 p.2 nch e n, ne, nf, d⟩
/-- .. where the frame's own object is kept too -/
theorem Inv.un {t' : Nat} (I : Inv X pins σ H s) (u : Un X.fs [] H H' s.heap h') (hok : HOk X.prog X.w H' h') : Inv X pins σ H' { s with heap := h', toks := t' } := by
  obtain ⟨m, ⟨o, es, ep, ho, r⟩, _⟩ := id I.loc
  obtain ⟨sl, hL⟩ := u.any ho I.free (by simp)
  exact I.step (g' := s.gens) (d' := s.drawn) (ch := []) (fun _ z => nomatch z) (fun b o _ hb _ e n => u.keep b o e n hb (by simp)) (fun b o _ hb _ e n => u.slot b o e n hb (by simp)) (fun b o _ e n => u.free b o e n (by simp)) (fun b o _ e => u.there b o e (by simp)) u.tups u.frzs u.tbls (fun m' hm => by
    obtain ⟨o', es', ep', ho', r'⟩ := hm
    rw [ho] at ho'; cases ho'
    exact ⟨_, es', ep', hL, r'⟩) hok I.bare
/-- behind a call (or a comprehension's block): the slots of this frame may have changed too, the records at ch may have turned -/
theorem Inv.call {g' : Array GenState} {t' : Nat} {d' : Drawn} {ch : List Addr} (I : Inv X pins σ H s) (u : Un (frs X.stack) ch H H' s.heap h') (hok : HOk X.prog X.w H' h') (hg : AllBare g')
    (hch : ∀ b ∈ ch, (b ∈ X.ex ∨ X.s₀.heap.objs.size ≤ b) ∧ b ≠ X.env.locals ∧ (∀ x c, X.env.cells.lookup x = some c → c ≠ b) ∧ ∀ p ∈ X.pn ++ pins, p.1 ≠ b) :
    Inv X pins σ H' { s with heap := h', gens := g', drawn := d', toks := t' } := by
  obtain ⟨m, ⟨o, es, ep, ho, r⟩, _⟩ := id I.loc
  obtain ⟨sl, hL⟩ := u.any ho I.free fun z => (hch _ z).2.1 rfl
  exact I.step (ch := ch) hch (fun b o hL hb hc e n => u.keep b o e n (fun z => (List.mem_cons.mp (I.stkSub b z)).elim hL hb) hc) (fun b o _ _ hc e n => u.any e n hc) (fun b o hc e n => u.free b o e n hc) (fun b o hc e => u.there b o e hc) u.tups u.frzs u.tbls (fun m' hm => by
    obtain ⟨o', es', ep', ho', r'⟩ := hm
    rw [ho] at ho'; cases ho'
    exact ⟨_, es', ep', hL, r'⟩) hok hg
/-- an untracked record of ours (an iterator) has turned -/
theorem Inv.turned {t' : Nat} {it : Addr} (I : Inv X pins σ H s) (k : ∀ b o, b ≠ it → s.heap.get? b = some o → h'.get? b = some o) (hn : H it = none) (hL : it ≠ X.env.locals)
    (h1 : it ∈ X.ex ∨ X.s₀.heap.objs.size ≤ it) (h2 : ∀ x c, X.env.cells.lookup x = some c → c ≠ it) (h3 : ∀ p ∈ X.pn ++ pins, p.1 ≠ it) : Inv X pins σ H { s with heap := h', toks := t' } := by
  have nit : ∀ b u, H b = some u → b ≠ it := fun b u e z => by rw [z, hn] at e; cases e
  refine I.step (g' := s.gens) (d' := s.drawn) (ch := [it]) (fun b hb => ?_) (fun b o _ _ hc e _ => k b o (fun z => hc (by simp [z])) e) (fun b o _ _ hc e _ => ⟨o.slots, k b o (fun z => hc (by simp [z])) e⟩) (fun _ _ _ _ n => n)
    (fun b o hc e => ⟨o, k b o (fun z => hc (by simp [z])) e⟩) (fun _ _ e => e) (fun _ _ _ e => e) (fun b ps e => ⟨#[], by rw [e]; simp⟩) (fun m hm => ?_) (fun b u e => ?_) I.bare
  · have e : b = it := by simpa using hb
    subst e
    exact ⟨h1, hL, h2, h3⟩
  · obtain ⟨o, es, ep, ho, r⟩ := hm
    exact ⟨o, es, ep, k _ o (Ne.symm hL) ho, r⟩
  · refine (I.hok b u e).stay (fun c v hc q => k c v ?_ q) (fun _ q => q) fun _ _ q => q
    rcases hc with z | z
    · rw [z]; exact nit b u e
    · exact nit c _ z
theorem Inv.tok (I : Inv X pins σ H s) (t : Nat) : Inv X pins σ H { s with toks := t } := I.un (h' := s.heap) (t' := t) Un.refl I.hok
/-- all objects kept -/
theorem Inv.kept {t' : Nat} (I : Inv X pins σ H s) (k : ∀ b u, s.heap.get? b = some u → h'.get? b = some u) : Inv X pins σ H { s with heap := h', toks := t' } := I.un (Un.kept k) (I.hok.kept k)
/-- a new object laid and tracked -/
theorem Inv.laid {a : Addr} {o : HO} {t' : Nat} (I : Inv X pins σ H s) (k : ∀ b u, s.heap.get? b = some u → h'.get? b = some u) (hp : s.heap.objs.size ≤ a) (new : ObjOk X.prog X.w (upd H a o) h' a o) :
    Inv X pins σ (upd H a o) { s with heap := h', toks := t' } := I.un (Un.laid k hp (I.hok.fresh hp)) (I.hok.laid k hp new)
/-- an object written -/
theorem Inv.write {x e : Addr} {o : HO} {t' : Nat} (I : Inv X pins σ H s) (mu : Mut (H x)) (he : e = x ∨ H e = some (.own x)) (k : ∀ b u, b ≠ e → s.heap.get? b = some u → h'.get? b = some u) (heo : ∃ u, h'.get? e = some u)
    (new : ObjOk X.prog X.w (upd H x o) h' x o) : Inv X pins σ (upd H x o) { s with heap := h', toks := t' } := I.un (Un.write mu he k heo) (I.hok.write mu he k heo new)
/-- forgetting slots, pins -/
theorem Inv.weak {σ' : List (Option V)} (I : Inv X pins σ H s) (hl : σ'.length = σ.length) (w : ∀ (i : Nat) v, σ'[i]? = some (some v) → σ[i]? = some (some v)) : Inv X pins σ' H s :=
  ⟨I.ok, I.os, I.bare, I.base, let ⟨m, hn, hl'⟩ := I.loc; ⟨m, hn, fun i x v e1 e2 e3 => hl' i x v e1 (w i v e2) e3⟩, I.cell, I.free, I.freeC, I.pin, I.hok, hl.trans I.len⟩
theorem Inv.pins_of {pins' : List (Addr × Obj)} (I : Inv X pins σ H s) (h : ∀ p ∈ pins', s.heap.get? p.1 = some p.2 ∧ H p.1 = none ∧ p.1 ≠ X.env.locals ∧ p.1 ∉ X.fs ∧ ∀ v, p.2.data ≠ .cell v) : Inv X pins' σ H s :=
  ⟨I.ok, I.os, I.bare, I.base, I.loc, I.cell, I.free, I.freeC, fun p hp => (List.mem_append.mp hp).elim (fun z => I.pin p (List.mem_append_left _ z)) (h p), I.hok, I.len⟩

theorem nodup_ix {N : List Str} (hN : N.Nodup) {i j : Nat} {x : Str} (a : N[i]? = some x) (b : N[j]? = some x) : i = j := by
  obtain ⟨h1, e1⟩ := List.getElem?_eq_some_iff.mp a
  obtain ⟨h2, e2⟩ := List.getElem?_eq_some_iff.mp b
  exact (List.getElem_inj hN).mp (e1.trans e2.symm)

/-- a name is stored; what changed -/
theorem store_ok2 {M : Model} {A : Around} {E : Value → Shared → Prop} {i : Nat} {x : Str} {v : V} {u : Value} {Q : Unit → Shared → Prop} (I : Inv X pins σ H s) (hN : X.N.Nodup) (hi : X.N[i]? = some x) (hx : Loc X.env.scope x) (r : RelV v u)
    (h : ∀ s', Inv X pins (σ.set i (some v)) H s' → (∃ a, Heap.SameBut a s.heap s'.heap ∧ (a = X.env.locals ∨ X.env.cells.lookup x = some a)) → Q () s') (hf : X.fn x = true ∨ X.env.scope.names.lookup x = some .local := by first | exact .inl rfl | exact .inr rfl | assumption) : wpAny M A (storeName X.env x u) Q E s := by
  obtain ⟨m, hn, hl⟩ := id I.loc
  have hcls : (X.env.scope.kind == .class || (X.env.scope.kind == .module && X.env.locals != X.env.globals)) = false := by rw [I.ok.kind]; rfl
  have hiσ : i < σ.length := by rw [I.len]; exact (List.getElem?_eq_some_iff.mp hi).1
  have cne := I.cne
  have tracked : ∀ {a : Addr} {h' : Heap}, (∃ o, s.heap.get? a = some o ∧ H a = none) → Heap.SameBut a s.heap h' → HOk X.prog X.w H h' := fun {a h'} ha hs b ob e => by
    obtain ⟨_, _, hfree⟩ := ha
    refine (I.hok b ob e).stay (fun c w' hc q => (hs.2 c ?_).trans q) (fun _ q => q) fun _ _ q => q
    rintro rfl
    rcases hc with rfl | hc
    · rw [hfree] at e; cases e
    · rw [hfree] at hc; cases hc
  rcases hx with hk | hk
  · refine wpAny_storeName_local hk hn (fun h' hn' hs => ?_) hcls
    obtain ⟨oL, _, _, hoL, _⟩ := id hn
    refine h _ ⟨I.ok, I.os, I.bare, ⟨fun b o e n hb hx => ?_, fun b o e n hb hx => ?_, I.base.free, fun b o e hx => ?_, I.base.tups, I.base.frzs, I.base.tbls⟩, ⟨_, hn', fun j y v' e1 e2 e3 => ?_⟩, fun y c e => ?_, I.free, I.freeC, fun p hp => ?_, tracked ⟨oL, hoL, I.free⟩ hs, by simpa using I.len⟩ ⟨_, hs, .inl rfl⟩
    · exact (hs.2 b (Nat.ne_of_lt (Nat.lt_of_lt_of_le (Heap.lt_size e) I.ok.above))).trans (I.base.keep b o e n hb hx)
    · obtain ⟨sl, e1⟩ := I.base.slot b o e n hb hx
      exact ⟨sl, (hs.2 b (Nat.ne_of_lt (Nat.lt_of_lt_of_le (Heap.lt_size e) I.ok.above))).trans e1⟩
    · obtain ⟨o', e1⟩ := I.base.there b o e hx
      exact ⟨o', (hs.2 b (Nat.ne_of_lt (Nat.lt_of_lt_of_le (Heap.lt_size e) I.ok.above))).trans e1⟩
    · by_cases hj : j = i
      · subst hj
        rw [hi] at e1; cases e1
        rw [List.getElem?_set_self hiσ] at e2
        cases e2
        exact ⟨u, r, .inl ⟨hk, by simp⟩⟩
      · rw [List.getElem?_set_ne (Ne.symm hj)] at e2
        obtain ⟨u', r', q⟩ := hl j y v' e1 e2 e3
        refine ⟨u', r', ?_⟩
        rcases q with ⟨k, e⟩ | ⟨k, c, e, z⟩
        · refine .inl ⟨k, ?_⟩
          have : y ≠ x := fun e => hj (nodup_ix hN e1 (e ▸ hi))
          simp [this, e]
        · exact .inr ⟨k, c, e, z.sameBut hs (cne y c e)⟩
    · obtain ⟨w', z⟩ := I.cell y c e
      exact ⟨w', z.sameBut hs (cne y c e)⟩
    · obtain ⟨e, n, ne, nf, d⟩ := I.pin p hp
      exact ⟨(hs.2 p.1 ne).trans e, n, ne, nf, d⟩
  · have hfn : X.fn x = true := by
      rcases hf with z | z
      · exact z
      · rw [z] at hk; cases hk
    obtain ⟨c, hc⟩ := I.ok.has x (.inl hk)
    obtain ⟨w', z⟩ := I.cell x c hc
    refine wpAny_storeName_cell I.ok.kind hk hc z (fun h' hc' hs => ?_)
    obtain ⟨oc, hoc, hocd⟩ := id z
    refine h { s with heap := h' } ⟨I.ok, I.os, I.bare, ⟨fun b o e n hb hx => ?_, fun b o e n hb hx => ?_, I.base.free, fun b o e hx => ?_, I.base.tups, I.base.frzs, I.base.tbls⟩, ⟨m, hn.sameBut hs (Ne.symm (cne x c hc)), fun j y v' e1 e2 e3 => ?_⟩, fun y c' e => ?_, I.free, I.freeC, fun p hp => ?_, tracked ⟨oc, hoc, I.freeC x c hc⟩ hs, by simpa using I.len⟩ ⟨c, hs, .inr hc⟩
    · exact (hs.2 b (Nat.ne_of_lt (Nat.lt_of_lt_of_le (Heap.lt_size e) (I.ok.cab x c hfn hc)))).trans (I.base.keep b o e n hb hx)
    · obtain ⟨sl, e1⟩ := I.base.slot b o e n hb hx
      exact ⟨sl, (hs.2 b (Nat.ne_of_lt (Nat.lt_of_lt_of_le (Heap.lt_size e) (I.ok.cab x c hfn hc)))).trans e1⟩
    · obtain ⟨o', e1⟩ := I.base.there b o e hx
      exact ⟨o', (hs.2 b (Nat.ne_of_lt (Nat.lt_of_lt_of_le (Heap.lt_size e) (I.ok.cab x c hfn hc)))).trans e1⟩
    · by_cases hj : j = i
      · subst hj
        rw [hi] at e1; cases e1
        rw [List.getElem?_set_self hiσ] at e2
        cases e2
        exact ⟨u, r, .inr ⟨.inl hk, c, hc, hc'⟩⟩
      · rw [List.getElem?_set_ne (Ne.symm hj)] at e2
        obtain ⟨u', r', q⟩ := hl j y v' e1 e2 e3
        refine ⟨u', r', ?_⟩
        rcases q with q | ⟨k, c', e, z'⟩
        · exact .inl q
        · refine .inr ⟨k, c', e, z'.sameBut hs ?_⟩
          rintro rfl
          exact hj (nodup_ix hN e1 (I.ok.inj _ _ _ e hc ▸ hi))
    · by_cases hcc : c' = c
      · subst hcc; exact ⟨_, hc'⟩
      · obtain ⟨w2, z2⟩ := I.cell y c' e
        exact ⟨w2, z2.sameBut hs hcc⟩
    · obtain ⟨e, n, ne, nf, d⟩ := I.pin p hp
      refine ⟨(hs.2 p.1 ?_).trans e, n, ne, nf, d⟩
      intro q
      rw [q, hoc] at e
      have q' : oc = p.2 := Option.some.inj e
      exact d w' (by rw [← q']; exact hocd)
theorem store_ok {M : Model} {A : Around} {E : Value → Shared → Prop} {i : Nat} {x : Str} {v : V} {u : Value} {Q : Unit → Shared → Prop} (I : Inv X pins σ H s) (hN : X.N.Nodup) (hi : X.N[i]? = some x) (hx : Loc X.env.scope x) (r : RelV v u)
    (h : ∀ s', Inv X pins (σ.set i (some v)) H s' → Q () s') (hf : X.fn x = true ∨ X.env.scope.names.lookup x = some .local := by first | exact .inl rfl | exact .inr rfl | assumption) : wpAny M A (storeName X.env x u) Q E s :=
  store_ok2 I hN hi hx r (fun s' I' _ => h s' I') hf
/-- behind a call or a block, the state as it is -/
theorem Inv.call' {s' : Shared} {ch : List Addr} (I : Inv X pins σ H s) (ho : s'.os = s.os) (u : Un (frs X.stack) ch H H' s.heap s'.heap) (hok : HOk X.prog X.w H' s'.heap) (hg : AllBare s'.gens)
    (hch : ∀ b ∈ ch, (b ∈ X.ex ∨ X.s₀.heap.objs.size ≤ b) ∧ b ≠ X.env.locals ∧ (∀ x c, X.env.cells.lookup x = some c → c ≠ b) ∧ ∀ p ∈ X.pn ++ pins, p.1 ≠ b) : Inv X pins σ H' s' := by
  obtain ⟨h', g', d', t', o'⟩ := s'
  have e : o' = s.os := ho
  subst e
  exact I.call (g' := g') (t' := t') (d' := d') u hok hg hch
end

/-! ### the judgements -/
/-- an exception: its class, its own dict's address (where it has one), the abstract heap behind it -/
noncomputable abbrev XK := Value → Option Addr → Hp → Prop
noncomputable abbrev St := List (Option V)
noncomputable abbrev VK := V → Hp → Prop
/-- an expression's reading; a test's; an argument list's -/
noncomputable abbrev TE := St → Hp → VK → Prop
noncomputable abbrev TT := St → Hp → (Bool → Hp → Prop) → Prop
noncomputable abbrev TA := St → Hp → (List V → Hp → Prop) → Prop
/-- what is wanted behind a statement -/
structure Ends where
  nx : St → Hp → Prop
  rt : VK
  bk : St → Hp → Prop := fun _ _ => False
  ct : St → Hp → Prop := fun _ _ => False
noncomputable abbrev TS := Ends → St → Hp → Prop

noncomputable def EP (X : Cx) (pins : List (Addr × Obj)) (σ : St) (Q : VK) (u : Value) (s' : Shared) : Prop := ∃ v H', Inv X pins σ H' s' ∧ RelV v u ∧ Q v H'
noncomputable def TP (X : Cx) (pins : List (Addr × Obj)) (σ : St) (Q : Bool → Hp → Prop) (b : Bool) (s' : Shared) : Prop := ∃ H', Inv X pins σ H' s' ∧ Q b H'
noncomputable def AP (X : Cx) (pins : List (Addr × Obj)) (σ : St) (Q : List V → Hp → Prop) (us : List Value) (s' : Shared) : Prop := ∃ vs H', Inv X pins σ H' s' ∧ Vals vs us ∧ Q vs H'
noncomputable def SP (X : Cx) (pins : List (Addr × Obj)) (D : Ends) (f : Flow) (s' : Shared) : Prop :=
  match f with
  | .next => ∃ σ' H', Inv X pins σ' H' s' ∧ D.nx σ' H'
  | .brk => ∃ σ' H', Inv X pins σ' H' s' ∧ D.bk σ' H'
  | .cont => ∃ σ' H', Inv X pins σ' H' s' ∧ D.ct σ' H'
  | .ret u => ∃ v σ' H', Inv X pins σ' H' s' ∧ RelV v u ∧ D.rt v H'

noncomputable def PE (X : Cx) (e : Expr) (t : TE) : Prop :=
  ∀ (pins : List (Addr × Obj)) (s : Shared) (σ : St) (H : Hp) (Q : VK), Inv X pins σ H s → t σ H Q → wpAny (model X.prog X.w) X.A (eval e X.env) (EP X pins σ Q) X.xe s
noncomputable def PT (X : Cx) (e : Expr) (t : TT) : Prop :=
  ∀ (pins : List (Addr × Obj)) (s : Shared) (σ : St) (H : Hp) (Q : Bool → Hp → Prop), Inv X pins σ H s → t σ H Q → wpAny (model X.prog X.w) X.A (isTrue e X.env (eval e X.env)) (TP X pins σ Q) X.xe s
/-- a test whatever its 'whole' is (and, or) -/
noncomputable def PW (X : Cx) (e : Expr) (t : TT) : Prop :=
  ∀ (whole : Sem Value) (pins : List (Addr × Obj)) (s : Shared) (σ : St) (H : Hp) (Q : Bool → Hp → Prop), Inv X pins σ H s → t σ H Q → wpAny (model X.prog X.w) X.A (isTrue e X.env whole) (TP X pins σ Q) X.xe s
theorem PW.pt {X : Cx} {e : Expr} {t : TT} (h : PW X e t) : PT X e t := h _
/-- an argument list (no star), from the left -/
noncomputable def PA (X : Cx) (es : List Expr) (t : TA) : Prop :=
  ∀ (pos : Pos) (pins : List (Addr × Obj)) (s : Shared) (σ : St) (H : Hp) (Q : List V → Hp → Prop), Inv X pins σ H s → t σ H Q → wpAny (model X.prog X.w) X.A (spliced (backTo pos (starEach es X.env))) (AP X pins σ Q) X.xe s
noncomputable def PS (X : Cx) (st : Stmt) (t : TS) : Prop :=
  ∀ (pins : List (Addr × Obj)) (s : Shared) (σ : St) (H : Hp) (D : Ends), Inv X pins σ H s → t D σ H → wpAny (model X.prog X.w) X.A (exec st X.env) (SP X pins D) X.xe s
noncomputable def PSs (X : Cx) (st : List Stmt) (t : TS) : Prop :=
  ∀ (pins : List (Addr × Obj)) (s : Shared) (σ : St) (H : Hp) (D : Ends), Inv X pins σ H s → t D σ H → wpAny (model X.prog X.w) X.A (execs st X.env) (SP X pins D) X.xe s
/-- weaken the end -/
theorem thn {α : Type} {t : Sem α} {Q Q' : α → Shared → Prop} {M : Model} {A : Around} {E : Value → Shared → Prop} {s : Shared} (h : wpAny M A t Q E s) (hQ : ∀ a s, Q a s → Q' a s) : wpAny M A t Q' E s := wpAny_mono h hQ fun _ _ x => x
end L2

namespace L2
open PySem PySem.Spec PyProof.Rows
section
variable {X : Cx}

/-! ### names and constants -/
noncomputable def tVar (i : Nat) : TE := fun σ H Q => ∃ v, σ[i]? = some (some v) ∧ Q v H
noncomputable def tC (v : V) : TE := fun _ H Q => Q v H
theorem pe_var {i : Nat} {x : Str} {pos : Pos} (hN : X.N[i]? = some x) (hv : Vis X.env.scope x) (hd : (x == ("__debug__" : Str)) = false := by decide) (hcd : (x == ("__classdict__" : Str)) = false := by decide) : PE X (.Name x pos) (tVar i) := by
  intro pins s σ H Q I h
  obtain ⟨v, e, h⟩ := h
  obtain ⟨m, hn, hl⟩ := I.loc
  obtain ⟨u, r, l⟩ := hl i x v hN e hv
  have fin : EP X pins σ Q u s := ⟨v, H, I, r, h⟩
  rcases l with ⟨hk, hm⟩ | ⟨hk, c, hc, hcell⟩
  · exact wpAny_Name (wpAny_loadName_local I.ok.kind hk hn hm fin) hd
  · rcases hk with hk | hk
    · exact wpAny_Name (wpAny_loadName_cell I.ok.kind hk hc hcell fin) hd
    · exact wpAny_Name (wpAny_loadName_free I.ok.kind hk hc hcell fin hcd) hd
theorem pe_int {i j pos} : PE X (.Constant (.int i) j pos) (tC (.int i)) := fun _ _ _ H _ I h => wpAny_Constant_int ⟨.int i, H, I.tok _, ⟨_, rfl⟩, h⟩
theorem pe_bl {b j pos} : PE X (.Constant (.bool b) j pos) (tC (.bl b)) := fun _ _ _ H _ I h => Constant_bool ⟨.bl b, H, I, rfl, h⟩
theorem pe_non {j pos} : PE X (.Constant .none j pos) (tC .non) := fun _ _ _ H _ I h => Constant_none ⟨.non, H, I, rfl, h⟩
theorem pe_str {x j pos} : PE X (.Constant (.str x) j pos) (tC (.str x)) := fun _ _ _ H _ I h => Calls.Constant_str ⟨.str x, H, I.tok _, ⟨_, rfl⟩, h⟩

/-- a global name of the def -/
noncomputable def Gl (X : Cx) (x : Str) : Prop := X.env.kindOf x = some .globalImplicit
theorem ld_glob {E : Value → Shared → Prop} {pins : List (Addr × Obj)} {s : Shared} {σ : St} {H : Hp} {x : Str} {u : Value} {pos : Pos} {Q : Value → Shared → Prop} (I : Inv X pins σ H s) (hg : Gl X x) (hm : X.mg x = some u) (h : Q u s)
    (hd : (x == ("__debug__" : Str)) = false := by decide) : wpAny (model X.prog X.w) X.A (eval (.Name x pos) X.env) Q E s :=
  Calls.Name_function_global I.ok.kind hg (Calls.loadGlobal_global (by rw [I.ok.glob]; exact I.mod.glob.keeps I.bk) hm h) hd
theorem ld_blt {E : Value → Shared → Prop} {pins : List (Addr × Obj)} {s : Shared} {σ : St} {H : Hp} {x : Str} {u : Value} {pos : Pos} {Q : Value → Shared → Prop} (I : Inv X pins σ H s) (hg : Gl X x) (hm : X.mg x = none) (hv : bootBuiltins x = some u) (h : Q u s)
    (hn : x ≠ "__name__" := by decide) (hd : (x == ("__debug__" : Str)) = false := by decide) : wpAny (model X.prog X.w) X.A (eval (.Name x pos) X.env) Q E s := by
  obtain ⟨mb, h1, h2⟩ := I.mod.blt
  exact Calls.Name_function_global I.ok.kind hg (Calls.loadGlobal_builtin (by rw [I.ok.glob]; exact I.mod.glob.keeps I.bk) hm (by rw [I.ok.blt]; exact h1.keeps I.bk) ((h2 x hn).trans hv) h) hd
/-- a module's constant, a class, a function, as a value -/
theorem pe_glob {x : Str} {v : V} {u : Value} {pos : Pos} (hg : Gl X x) (hm : X.mg x = some u) (r : RelV v u) (hd : (x == ("__debug__" : Str)) = false := by decide) : PE X (.Name x pos) (tC v) :=
  fun _ _ _ H _ I h => ld_glob I hg hm ⟨v, H, I, r, h⟩ hd
theorem pe_bltn {x : Str} {v : V} {u : Value} {pos : Pos} (hg : Gl X x) (hm : X.mg x = none) (hv : bootBuiltins x = some u) (r : RelV v u) (hn : x ≠ "__name__" := by decide) (hd : (x == ("__debug__" : Str)) = false := by decide) : PE X (.Name x pos) (tC v) :=
  fun _ _ _ H _ I h => ld_blt I hg hm hv ⟨v, H, I, r, h⟩ hn hd

/-! ### arithmetic -/
variable {a b : Expr} {ta tb : TE} {pos : Pos}
/-! ### comparisons -/
/-- a comparison as a value, as a test -/
noncomputable def tB (t : TE) : TT := fun σ H Q => t σ H fun x H1 => ∃ c, x = .bl c ∧ Q c H1
/-- an expression whose value is a bool, as a test -/
theorem pt_val {e : Expr} {t : TE} (h : PE X e t) (he : ∀ whole, isTrue e X.env whole = (do let v ← whole; standAt e.pos; holding [v] (truthy v)) := by intro _; rfl) : PT X e (tB t) := by
  intro pins s σ H Q I hw
  refine isTrue_plain (thn (h pins s σ H _ I hw) fun v s1 ⟨x, H1, I1, r1, q1⟩ => ?_) (he _)
  obtain ⟨d, rfl, q⟩ := q1
  cases r1
  exact wpAny_truthy_bool ⟨H1, I1, q⟩

/-! ### and, or, not -/
variable {tA tB' : TT} {rest : List Expr}
noncomputable def tOr (t u : TT) : TT := fun σ H Q => t σ H fun c H1 => if c = true then Q true H1 else u σ H1 Q
noncomputable def tNot (t : TT) : TT := fun σ H Q => t σ H fun c H1 => Q (!c) H1
theorem pw_or1 (ha : PT X a tA) : PW X (.BoolOp .Or [a] pos) tA := by
  intro wh pins s σ H Q I h
  refine isTrue_or (thn (ha pins s σ H Q I h) fun c s1 e => ?_)
  cases c with
  | false => exact isTrue_or_nil e
  | true => exact e
theorem pw_or (ha : PT X a tA) (hb : PW X (.BoolOp .Or (b :: rest) pos) tB') : PW X (.BoolOp .Or (a :: b :: rest) pos) (tOr tA tB') := by
  intro wh pins s σ H Q I h
  refine isTrue_or (thn (ha pins s σ H _ I h) fun c s1 ⟨H1, I1, q1⟩ => ?_)
  cases c with
  | true => exact ⟨H1, I1, q1⟩
  | false => exact hb wh pins s1 σ H1 Q I1 q1
theorem pt_not (ha : PT X a tA) : PT X (.UnaryOp .Not a pos) (tNot tA) := by
  intro pins s σ H Q I h
  exact isTrue_not (ha pins s σ H (fun c H1 => Q (!c) H1) I h)
end
end L2

namespace L2
open PySem PySem.Spec PyProof.Rows

/-! ### a list, a tuple that is read: tracked, frozen, or an object of the module -/
noncomputable def SqL (K : PySem.W.Frag) (H : Hp) (a : Addr) (xs : List V) : Prop :=
  Rd H a (.lst xs) ∨
    ∃ (o : Obj) (its : Array Value) (n : Nat), K.lookup a = some o ∧ o.cls = .type "list" ∧ o.dict = none ∧ o.data = .seq its n ∧ its.size ≤ sizeLine ∧ Vals xs its.toList
noncomputable def SqT (K : PySem.W.Frag) (H : Hp) (a : Addr) (xs : List V) : Prop :=
  Rd H a (.tup xs) ∨
    ∃ (o : Obj) (its : Array Value) (n : Nat), K.lookup a = some o ∧ o.cls = .type "tuple" ∧ o.data = .seq its n ∧ its.size ≤ sizeLine ∧ Vals xs its.toList
noncomputable def absV : Value → Option V
  | .none => some .non
  | .bool b => some (.bl b)
  | .int i _ => some (.int i)
  | .str x _ => some (.str x)
  | .bytes b _ => some (.byt b)
  | .float b _ => some (.flt b)
  | .ref a => some (.ref a)
  | .type n => some (.ty n)
  | _ => none
theorem RelV.abs {x : V} {u : Value} (r : RelV x u) : absV u = some x := by
  cases x with
  | non => cases r; rfl
  | bl _ => cases r; rfl
  | int _ => obtain ⟨t, rfl⟩ := r; rfl
  | str _ => obtain ⟨t, rfl⟩ := r; rfl
  | byt _ => obtain ⟨t, rfl⟩ := r; rfl
  | flt _ => obtain ⟨t, rfl⟩ := r; rfl
  | ref _ => cases r; rfl
  | ty _ => cases r; rfl
theorem RelV.inj {x y : V} {u : Value} (r : RelV x u) (q : RelV y u) : x = y := Option.some.inj (r.abs.symm.trans q.abs)
theorem Vals.inj : ∀ {xs ys : List V} {us : List Value}, Vals xs us → Vals ys us → xs = ys
  | _, _, _, .nil, .nil => rfl
  | _, _, _, .cons r t, .cons r' t' => by rw [r.inj r', Vals.inj t t']
section
variable {X : Cx} {pins : List (Addr × Obj)} {σ : St} {H : Hp} {s : Shared} {a : Addr} {xs ys : List V}
theorem SqL.of {K : PySem.W.Frag} (h : H a = some (.lst xs)) : SqL K H a xs := .inl (.inl h)
theorem Inv.list (I : Inv X pins σ H s) (h : SqL X.K H a xs) : ∃ its : List Value, Vals xs its ∧ PlainL s.heap a its.toArray ∧ xs.length ≤ sizeLine := by
  rcases h with h | ⟨o, its, n, hk, hc, hd, hs, hz, r⟩
  · obtain ⟨z, its, n, r, e⟩ := h.ok I.hok
    exact ⟨its, r, ⟨_, n, e, rfl, rfl, rfl⟩, z⟩
  · refine ⟨its.toList, r, ⟨o, n, I.kIn a o hk, hc, hd, by simpa using hs⟩, ?_⟩
    have e := r.length
    simp only [Array.length_toList] at e
    omega
theorem Inv.tuple (I : Inv X pins σ H s) (h : SqT X.K H a xs) : ∃ its : List Value, Vals xs its ∧ IsTup s.heap a its.toArray ∧ xs.length ≤ sizeLine := by
  rcases h with h | ⟨o, its, n, hk, hc, hs, hz, r⟩
  · obtain ⟨z, its, r, p⟩ := h.ok I.hok
    exact ⟨its, r, p, z⟩
  · refine ⟨its.toList, r, ⟨o, I.kIn a o hk, hc, n, by simpa using hs⟩, ?_⟩
    have e := r.length
    simp only [Array.length_toList] at e
    omega
theorem Inv.list_inj (I : Inv X pins σ H s) (h : SqL X.K H a xs) (h' : SqL X.K H a ys) : xs = ys := by
  obtain ⟨its, r, ⟨o, n, e, _, _, d⟩, _⟩ := I.list h
  obtain ⟨its', r', ⟨o', n', e', _, _, d'⟩, _⟩ := I.list h'
  rw [e] at e'; cases e'
  rw [d] at d'
  injection d' with d1 _
  have : its = its' := by simpa using congrArg Array.toList d1
  subst this
  exact r.inj r'
end

/-! ### another wish about exceptions -/
noncomputable abbrev Cx.wish (X : Cx) (E : Value → Shared → Prop) : Cx := { X with xe := E }
/-- no exception leaves -/
noncomputable abbrev Cx.nox (X : Cx) : Cx := X.wish fun _ _ => False
theorem Cx.Ok.wish {X : Cx} (ok : X.Ok) (E : Value → Shared → Prop) : (X.wish E).Ok :=
  ⟨ok.mod, ok.kind, ok.glob, ok.blt, ok.above, ok.inj, ok.has, ok.cab, ok.hd, ok.frames, ok.stk, ok.exf, ok.bs, ok.bsz, ok.noex, ok.exfs, ok.funs, ok.frf⟩
theorem Cx.Ok.unwish {X : Cx} {E : Value → Shared → Prop} (ok : (X.wish E).Ok) : X.Ok :=
  ⟨ok.mod, ok.kind, ok.glob, ok.blt, ok.above, ok.inj, ok.has, ok.cab, ok.hd, ok.frames, ok.stk, ok.exf, ok.bs, ok.bsz, ok.noex, ok.exfs, ok.funs, ok.frf⟩
section
variable {X : Cx} {pins : List (Addr × Obj)} {σ : St} {H : Hp} {s : Shared} {E : Value → Shared → Prop}
theorem Inv.wish (I : Inv X pins σ H s) (E : Value → Shared → Prop) : Inv (X.wish E) pins σ H s := ⟨I.ok.wish E, I.os, I.bare, I.base, I.loc, I.cell, I.free, I.freeC, I.pin, I.hok, I.len⟩
theorem Inv.unwish (I : Inv (X.wish E) pins σ H s) : Inv X pins σ H s := ⟨I.ok.unwish, I.os, I.bare, I.base, I.loc, I.cell, I.free, I.freeC, I.pin, I.hok, I.len⟩
theorem SP.unwish {D : Ends} {f : Flow} {s' : Shared} (h : SP (X.wish E) pins D f s') : SP X pins D f s' := by
  cases f with
  | next => obtain ⟨σ', H', I, q⟩ := h; exact ⟨σ', H', I.unwish, q⟩
  | brk => obtain ⟨σ', H', I, q⟩ := h; exact ⟨σ', H', I.unwish, q⟩
  | cont => obtain ⟨σ', H', I, q⟩ := h; exact ⟨σ', H', I.unwish, q⟩
  | ret u => obtain ⟨v, σ', H', I, r, q⟩ := h; exact ⟨v, σ', H', I.unwish, r, q⟩
theorem PSs.nox {st : List Stmt} {t : TS} (h : PSs X.nox st t) : PSs X st t := fun pins s σ H D I hw =>
  wpAny_mono (h pins s σ H D (I.wish _) hw) (fun _ _ q => q.unwish) fun _ _ z => False.elim z
end

/-! ### blocks and small statements -/
section
variable {X : Cx} {st : Stmt} {rest : List Stmt} {t u : TS} {e : Expr} {te : TE} {pos : Pos}
noncomputable def tNext : TS := fun D σ H => D.nx σ H
noncomputable def tSeq (t u : TS) : TS := fun D σ H => t { D with nx := u D } σ H
theorem pss_nil : PSs X [] tNext := fun _ _ σ H _ I h => wpAny_execs_nil ⟨σ, H, I, h⟩
theorem pss_cons (h1 : PS X st t) (h2 : PSs X rest u) : PSs X (st :: rest) (tSeq t u) := by
  intro pins s σ H D I h
  refine wpAny_execs_cons (thn (h1 pins s σ H { D with nx := u D } I h) fun f s1 q => ?_)
  cases f with
  | next =>
    obtain ⟨σ', H', I', q⟩ := q
    exact h2 pins s1 σ' H' D I' q
  | ret v => exact q
  | brk => exact q
  | cont => exact q
theorem pss_one (h1 : PS X st t) : PSs X [st] t := by
  intro pins s σ H D I h
  refine wpAny_execs_cons (thn (h1 pins s σ H D I h) fun f s1 q => ?_)
  cases f with
  | next => exact wpAny_execs_nil q
  | ret v => exact q
  | brk => exact q
  | cont => exact q
/-- in a def's body nothing is shown -/
theorem Inv.quiet {pins : List (Addr × Obj)} {σ : St} {H : Hp} {s : Shared} (I : Inv X pins σ H s) : interactive X.env = false := by simp [interactive, I.ok.kind]
/-- an expression whose value is dropped -/
noncomputable def tDrop (te : TE) : TS := fun D σ H => te σ H fun _ H1 => D.nx σ H1
theorem ps_expr (he : PE X e te) (hs : swapsWith e none pos.line X.env = pure false := by rfl) : PS X (.Expr e pos) (tDrop te) := by
  intro pins s σ H D I h
  exact wpAny_Expr_any (thn (he pins s σ H _ I h) fun v s1 ⟨x, H1, I1, r1, q1⟩ => ⟨σ, H1, I1, q1⟩) I.quiet hs
noncomputable def tRet (te : TE) : TS := fun D σ H => te σ H D.rt
theorem ps_ret (he : PE X e te) : PS X (.Return (some e) pos) (tRet te) := by
  intro pins s σ H D I h
  exact wpAny_Return_some (thn (he pins s σ H _ I h) fun v s1 ⟨x, H1, I1, r1, q1⟩ => ⟨x, σ, H1, I1, r1, q1⟩)
noncomputable def tIfS (c : TT) (t u : TS) : TS := fun D σ H => c σ H fun b H1 => if b = true then t D σ H1 else u D σ H1
theorem ps_if {c : Expr} {a b : List Stmt} {tc : TT} (hc : PT X c tc) (ha : PSs X a t) (hb : PSs X b u) : PS X (.If c a b pos) (tIfS tc t u) := by
  intro pins s σ H D I h
  refine wpAny_If (thn (hc pins s σ H _ I h) fun d s1 ⟨H1, I1, q1⟩ => ?_)
  cases d with
  | true => exact ha pins s1 σ H1 D I1 q1
  | false => exact hb pins s1 σ H1 D I1 q1
end

/-! ### targets -/
noncomputable abbrev TG := V → St → Hp → (St → Hp → Prop) → Prop
noncomputable def PG (X : Cx) (target : Expr) (t : TG) : Prop :=
  ∀ (pins : List (Addr × Obj)) (s : Shared) (σ : St) (H : Hp) (v : V) (u : Value) (Q : St → Hp → Prop), Inv X pins σ H s → RelV v u → t v σ H Q →
    wpAny (model X.prog X.w) X.A (assign target X.env u) (fun _ s' => ∃ σ' H', Inv X pins σ' H' s' ∧ Q σ' H') X.xe s
/-- o[i] = v, by values -/
noncomputable abbrev TSet := V → V → V → Hp → (Hp → Prop) → Prop
noncomputable def PSet (X : Cx) (t : TSet) : Prop :=
  ∀ (pins : List (Addr × Obj)) (s : Shared) (σ : St) (H : Hp) (o i v : V) (ov iv u : Value) (Q : Hp → Prop), Inv X pins σ H s → RelV o ov → RelV i iv → RelV v u → t o i v H Q →
    wpAny (model X.prog X.w) X.A (setItem ov iv u) (fun _ s' => ∃ H', Inv X pins σ H' s' ∧ Q H') X.xe s
section
variable {X : Cx} {pos : Pos}
noncomputable def gName (i : Nat) : TG := fun v σ H Q => Q (σ.set i (some v)) H
theorem pg_name {i : Nat} {x : Str} (hN : X.N.Nodup) (hi : X.N[i]? = some x) (hx : Loc X.env.scope x) (hf : X.fn x = true ∨ X.env.scope.names.lookup x = some .local := by first | exact .inl rfl | exact .inr rfl | assumption) : PG X (.Name x pos) (gName i) := by
  intro pins s σ H v u Q I r h
  exact wpAny_assign_Name (store_ok I hN hi hx r (fun s' I' => ⟨_, H, I', h⟩) hf)
/-- o[i] = .. -/
noncomputable def gSub (to ti : TE) (t : TSet) : TG := fun v σ H Q => to σ H fun o H1 => ti σ H1 fun i H2 => t o i v H2 fun H3 => Q σ H3
theorem pg_sub {o i : Expr} {to ti : TE} {t : TSet} (ho : PE X o to) (hi : PE X i ti) (hs : PSet X t)
    (ha : ∀ v, assign (.Subscript o i pos) X.env v = (do
      let ov ← holding [v] (eval o X.env)
      let iv ← holding [v, ov] (eval i X.env)
      standAt pos
      holding [v, ov, iv] (setItem ov iv v)
      release [v, ov, iv] []) := by intro _; rfl) : PG X (.Subscript o i pos) (gSub to ti t) := by
  intro pins s σ H v u Q I r h
  rw [ha]
  refine wpAny_bind (wpAny_holding (thn (ho pins s σ H _ I h) fun ov s1 ⟨x, H1, I1, r1, q1⟩ => ?_))
  refine wpAny_bind (wpAny_holding (thn (hi pins s1 σ H1 _ I1 q1) fun iv s2 ⟨y, H2, I2, r2, q2⟩ => ?_))
  refine wpAny_bind (wpAny_standAt (wpAny_bind (wpAny_holding (thn (hs pins s2 σ H2 x y v ov iv u _ I2 r1 r2 r q2) fun _ s3 ⟨H3, I3, q3⟩ => ?_))))
  exact wpAny_release ⟨σ, H3, I3, q3⟩
/-- target = value -/
noncomputable def tAsg (te : TE) (g : TG) : TS := fun D σ H => te σ H fun x H1 => g x σ H1 D.nx
theorem ps_asg {tg e : Expr} {te : TE} {g : TG} (he : PE X e te) (hg : PG X tg g) (hs : swapsWithSole [tg] e pos.line X.env = pure false := by rfl) (hw : swappedStores [tg] e X.env = pure none := by rfl)
    (h1 : (assignEach [tg] X.env).map (·.2) = [assign tg X.env] := by rfl) : PS X (.Assign [tg] e pos) (tAsg te g) := by
  intro pins s σ H D I h
  refine wpAny_Assign_stores (thn (he pins s σ H _ I h) fun v s1 ⟨x, H1, I1, r1, q1⟩ => ?_) hs hw
  rw [h1]
  exact thn (hg pins s1 σ H1 x v _ I1 r1 q1) fun _ s2 q => q
/-- name = value -/
theorem ps_set {i : Nat} {x : Str} {e : Expr} {te : TE} {pos' : Pos} (hN : X.N.Nodup) (hi : X.N[i]? = some x) (hx : Loc X.env.scope x) (he : PE X e te) (hs : swapsWith e (some (.Name x pos')) pos.line X.env = pure false := by rfl) (hf : X.fn x = true ∨ X.env.scope.names.lookup x = some .local := by first | exact .inl rfl | exact .inr rfl | assumption) :
    PS X (.Assign [.Name x pos'] e pos) (tAsg te (gName i)) := by
  intro pins s σ H D I h
  refine wpAny_Assign_Name (thn (he pins s σ H _ I h) fun v s1 ⟨y, H1, I1, r1, q1⟩ => ?_) hs
  exact store_ok I1 hN hi hx r1 (fun s2 I2 => ⟨_, H1, I2, q1⟩) hf
end

/-! ### while -/
section
variable {X : Cx} {pos : Pos}
end

/-! ### what a loop or a comprehension walks -/
/-- at turn i: it yields x (the heap may grow), or it stops -/
structure It where
  go : Nat → Hp → Prop
  yld : Nat → Hp → V → Hp → Prop
  stop : Nat → Hp → Prop
/-- the iterator's own objects may turn: they are not the frame's, not pinned, younger than the entry (or a comprehension's own) -/
noncomputable def FpOk (X : Cx) (pins : List (Addr × Obj)) (H : Hp) (b : Addr) : Prop :=
  H b = none ∧ b ≠ X.env.locals ∧ b ∉ X.fs ∧ (b ∈ X.ex ∨ X.s₀.heap.objs.size ≤ b) ∧ (∀ x c, X.env.cells.lookup x = some c → c ≠ b) ∧ ∀ p ∈ X.pn ++ pins, p.1 ≠ b
theorem Inv.fpOk {X : Cx} {pins : List (Addr × Obj)} {σ : St} {H H' : Hp} {s : Shared} {b : Addr} (I : Inv X pins σ H s) (hb : s.heap.objs.size ≤ b) (hn : H' b = none) : FpOk X pins H' b := by
  refine ⟨hn, Nat.ne_of_gt (Nat.lt_of_lt_of_le I.lt hb), I.nofs hb, .inr (Nat.le_trans I.sz hb), fun x c e z => ?_, fun p hp z => ?_⟩
  · obtain ⟨v, q⟩ := I.cell x c e
    exact absurd (Nat.lt_of_lt_of_le q.lt (by rw [z]; exact hb)) (Nat.lt_irrefl _)
  · exact absurd (Nat.lt_of_lt_of_le (Heap.lt_size (I.pin p hp).1) (by rw [z]; exact hb)) (Nat.lt_irrefl _)
structure Turn (P : Program) (w : World) (K : PySem.W.Frag) (tg : Expr) (J : It) (fp : List Addr) (it : Addr) (tn : Nat → Heap → Prop) : Prop where
  mem : it ∈ fp
  obj : ∀ i h, tn i h → ∀ b ∈ fp, ∃ o, h.get? b = some o ∧ ∀ v, o.data ≠ .cell v
  keep : ∀ i h h', tn i h → (∀ b ∈ fp, ∀ o, h.get? b = some o → h'.get? b = some o) → tn i h'
  item : ∀ (X : Cx), X.prog = P → X.w = w → X.K = K → X.calm = true → ∀ (i : Nat) (pins : List (Addr × Obj)) (s : Shared) (σ : St) (H : Hp) (E : Value → Shared → Prop), Inv X pins σ H s → (∀ b ∈ fp, FpOk X pins H b) → tn i s.heap → J.go i H →
    wpAny (model P w) X.A (pyNext (.ref it)) (fun r s1 => ∃ u, r = some u ∧
      wpAny (model P w) X.A (letOwnedTupleGo tg (.ref it) u) (fun _ s2 => ∃ x H', Inv X pins σ H' s2 ∧ RelV x u ∧ J.yld i H x H' ∧ tn (i + 1) s2.heap ∧ ∀ b ∈ fp, H' b = none) E s1) E s
  done : ∀ (X : Cx), X.prog = P → X.w = w → X.K = K → X.calm = true → ∀ (i : Nat) (pins : List (Addr × Obj)) (s : Shared) (σ : St) (H : Hp) (E : Value → Shared → Prop), Inv X pins σ H s → (∀ b ∈ fp, FpOk X pins H b) → tn i s.heap → J.stop i H →
    wpAny (model P w) X.A (pyNext (.ref it)) (fun r s1 => r = none ∧ Inv X pins σ H s1) E s
  self : ∀ (A : Around) (i : Nat) (s : Shared) (Q : Value → Shared → Prop) (E : Value → Shared → Prop), tn i s.heap → Q (.ref it) s → wpAny (model P w) A (pyIter (.ref it)) Q E s
noncomputable abbrev TI := St → Hp → (It → Hp → Prop) → Prop
/-- an iterator has come -/
noncomputable def PIE (X : Cx) (pins : List (Addr × Obj)) (σ : St) (tg : Expr) (R : It → Hp → Prop) (itv : Value) (s2 : Shared) : Prop :=
  ∃ (it : Addr) (fp : List Addr) (tn : Nat → Heap → Prop) (J : It) (H' : Hp), itv = .ref it ∧ Inv X pins σ H' s2 ∧ Turn X.prog X.w X.K tg J fp it tn ∧ tn 0 s2.heap ∧ (∀ b ∈ fp, FpOk X pins H' b) ∧ R J H'
noncomputable def PI (X : Cx) (tg iter : Expr) (wi : TI) : Prop :=
  ∀ (pins : List (Addr × Obj)) (s : Shared) (σ : St) (H : Hp) (R : It → Hp → Prop), Inv X pins σ H s → wi σ H R →
    wpAny (model X.prog X.w) X.A (eval iter X.env) (fun v s1 => wpAny (model X.prog X.w) X.A (pyIter v) (PIE X pins σ tg R) X.xe s1) X.xe s

/-- the step ahead of the store is nothing for an iterator that keeps no tuple -/
theorem go_of {M : Model} {A : Around} {E : Value → Shared → Prop} {s : Shared} {tg : Expr} {it : Addr} {u : Value} {o : Obj} {n : String} {vs : Array Value} {Q : Unit → Shared → Prop} (ho : s.heap.get? it = some o) (hc : o.cls = .type n) (hd : o.data = .fields vs)
    (hn : ["enumerate", "zip", "dict_itemiterator", "dict_reverseitemiterator", "odict_iterator", "itertools.zip_longest", "itertools.pairwise"].contains n = false) (hQ : Q () s) : wpAny M A (letOwnedTupleGo tg (.ref it) u) Q E s := by
  unfold letOwnedTupleGo
  cases tg <;> first
    | exact wpAny_pure hQ
    | (cases u <;> first
        | exact wpAny_pure hQ
        | (refine wpAny_bind (wpAny_load ho ?_)
           rw [hc, hd]
           show wpAny M A (if (["enumerate", "zip", "dict_itemiterator", "dict_reverseitemiterator", "odict_iterator", "itertools.zip_longest", "itertools.pairwise"].contains n && vs[0]? == some (rawInt _)) = true then _ else _) Q E s
           rw [if_neg (by intro h; rw [hn, Bool.false_and] at h; cases h)]
           exact wpAny_pure hQ))

/-- the list at a, as it stands at each turn (a loop may append to it) -/
noncomputable def Itl (K : PySem.W.Frag) (a : Addr) : It :=
  ⟨fun i H => ∃ xs x, SqL K H a xs ∧ xs[i]? = some x, fun i H x H' => H' = H ∧ ∀ xs, SqL K H a xs → xs[i]? = some x, fun i H => ∃ xs, SqL K H a xs ∧ xs.length ≤ i⟩
/-- lo, lo + 1, .. (n of them) -/
noncomputable def Itr (lo : Int) (n : Nat) : It := ⟨fun i _ => i < n, fun i H x H' => H' = H ∧ x = .int (lo + i), fun i _ => n ≤ i⟩
theorem turn_list {P : Program} {w : World} {K : PySem.W.Frag} {tg : Expr} (a it : Addr) : Turn P w K tg (Itl K a) [it] it (fun i h => h.IsListIter it a i) where
  mem := by simp
  obj := fun i h st b hb => by
    have e : b = it := by simpa using hb
    subst e
    obtain ⟨o, e, c, d⟩ := st
    exact ⟨o, e, fun v z => by rw [d] at z; cases z⟩
  keep := fun i h h' st k => st.at fun o e => k it (by simp) o e
  item := by
    intro X hP hw hK hc i pins s σ H E I hf st hg
    subst hP hw hK
    obtain ⟨xs, x, hq, hx⟩ := hg
    obtain ⟨its, rv, p, hz⟩ := I.list hq
    obtain ⟨u, hu, ru⟩ := rv.get hx
    obtain ⟨f0, f1, f2, f3, f4, f5⟩ := hf it (by simp)
    refine wpAny_pyNext_list_item st p.isList (x := u) (by simpa using hu) fun h' st' sb => ?_
    have I1 : Inv X pins σ H { s with heap := h' } := I.turned (t' := s.toks) (fun b o hb e => (sb.2 b hb).trans e) f0 f1 f3 f4 f5
    obtain ⟨o, e, c, d⟩ := id st'
    exact ⟨u, rfl, go_of (s := { s with heap := h' }) e c d (by decide) ⟨x, H, I1, ru, ⟨rfl, fun ys hy => by rw [I.list_inj hy hq]; exact hx⟩, st', fun b hb => (hf b hb).1⟩⟩
  done := by
    intro X hP hw hK hc i pins s σ H E I hf st hg
    subst hP hw hK
    obtain ⟨xs, hq, hx⟩ := hg
    obtain ⟨its, rv, p, hz⟩ := I.list hq
    obtain ⟨f0, f1, f2, f3, f4, f5⟩ := hf it (by simp)
    have hl := rv.length
    exact wpAny_pyNext_list_end (I.ok.hd hc) st p.isList (by simp; omega) fun h' eb => ⟨rfl, I.turned (t' := s.toks) (fun b o hb e => eb b o hb e) f0 f1 f3 f4 f5⟩
  self := fun _ _ _ _ _ st h => wpAny_pyIter_listiter st h
theorem turn_range {P : Program} {w : World} {K : PySem.W.Frag} {tg : Expr} (it : Addr) (lo : Int) (n : Nat) : Turn P w K tg (Itr lo n) [it] it (fun i h => IsRangeIter h it (lo + (i : Nat) * 1) ((n : Int) - (i : Nat)) 1) where
  mem := by simp
  obj := fun i h st b hb => by
    have e : b = it := by simpa using hb
    subst e
    exact ⟨_, st, fun v z => by
      have z' : Data.fields _ = Data.cell v := z
      cases z'⟩
  keep := fun i h h' st k => k it (by simp) _ st
  item := by
    intro X hP hw hK hc i pins s σ H E I hf st hg
    subst hP hw hK
    obtain ⟨f0, f1, f2, f3, f4, f5⟩ := hf it (by simp)
    have W := Walks.range (prog := X.prog) (w := X.w) (I.ok.hd hc) it lo 1 n
    refine W.item i s _ _ hg st fun v h' tk hv st' kk => ?_
    obtain ⟨t, rfl⟩ := hv
    have I1 : Inv X pins σ H { s with heap := h', toks := tk } := I.turned (fun b o hb e => kk b o (by simpa using hb) e) f0 f1 f3 f4 f5
    refine ⟨_, rfl, go_of (s := { s with heap := h', toks := tk }) (n := "range_iterator") st' rfl rfl (by decide) ⟨.int (lo + i), H, I1, ⟨t, ?_⟩, ⟨rfl, rfl⟩, st', fun b hb => (hf b hb).1⟩⟩
    rw [Int.mul_one]
  done := by
    intro X hP hw hK hc i pins s σ H E I hf st hg
    subst hP hw hK
    obtain ⟨f0, f1, f2, f3, f4, f5⟩ := hf it (by simp)
    exact wpAny_pyNext_range_end (I.ok.hd hc) st (by have : n ≤ i := hg; omega) fun h' eb => ⟨rfl, I.turned (t' := s.toks) (fun b o hb e => eb b o hb e) f0 f1 f3 f4 f5⟩
  self := fun _ _ _ _ _ st h => wpAny_pyIter_rangeiter st h
end L2

namespace L2
open PySem PySem.Spec PyProof.Rows
section
variable {X : Cx} {tg : Expr}
noncomputable def iList (K : PySem.W.Frag) (tl : TE) : TI := fun σ H R => tl σ H fun x H1 => ∃ a, x = .ref a ∧ (∃ xs, SqL K H1 a xs) ∧ R (Itl K a) H1
theorem pi_list {l : Expr} {tl : TE} (hl : PE X l tl) : PI X tg l (iList X.K tl) := by
  intro pins s σ H R I h
  refine thn (hl pins s σ H _ I h) fun v s1 ⟨x, H1, I1, r1, q1⟩ => ?_
  obtain ⟨a, e, ⟨xs, hq⟩, q⟩ := q1
  subst e
  cases r1
  obtain ⟨its, rv, p, hz⟩ := I1.list hq
  refine wpAny_pyIter_list p.isList ?_
  refine ⟨s1.heap.objs.size, [s1.heap.objs.size], _, _, H1, rfl, I1.kept (t' := s1.toks) fun b o e => Heap.get?_push_of_some _ e, turn_list a _, ⟨_, Heap.get?_push_size _ rfl, rfl, rfl⟩, fun b hb => ?_, q⟩
  have e : b = s1.heap.objs.size := by simpa using hb
  subst e
  exact I1.fpOk (Nat.le_refl _) (I1.hok.fresh (Nat.le_refl _))
/-- a range object just made, walked -/
theorem range_it {pins : List (Addr × Obj)} {σ : St} {H : Hp} {s : Shared} {R : It → Hp → Prop} {E : Value → Shared → Prop} {lo hi : Int} {t u v : Tok} {tk : Nat} (I : Inv X pins σ H s) (h1 : -(2 ^ 62) ≤ lo) (h2 : lo < 2 ^ 62) (h3 : -(2 ^ 62) ≤ hi) (h4 : hi < 2 ^ 62)
    (q : R (Itr lo (hi - lo).toNat) H) : wpAny (model X.prog X.w) X.A (pyIter (.ref s.heap.objs.size)) (PIE X pins σ tg R) E { s with heap := s.heap.push { cls := .type "range", data := .fields #[.int lo t, .int hi u, .int 1 v] }, toks := tk } := by
  refine wpAny_pyIter_range (IsRange.new ..) (small_one h1 h2 h3 h4) ?_
  have I1 : Inv X pins σ H { s with heap := s.heap.push { cls := .type "range", data := .fields #[.int lo t, .int hi u, .int 1 v] }, toks := tk } := I.kept fun b o e => Heap.get?_push_of_some _ e
  refine ⟨(s.heap.push { cls := .type "range", data := .fields #[.int lo t, .int hi u, .int 1 v] }).objs.size, [(s.heap.push { cls := .type "range", data := .fields #[.int lo t, .int hi u, .int 1 v] }).objs.size], _, _, H, rfl,
    I1.kept (t' := tk) fun b o e => Heap.get?_push_of_some _ e, turn_range _ lo (hi - lo).toNat, ?_, fun b hb => ?_, q⟩
  · have e1 : lo + ((0 : Nat) : Int) * 1 = lo := by simp
    have e2 : (((hi - lo).toNat : Nat) : Int) - ((0 : Nat) : Int) = Builtin.Range.rangeSize lo hi 1 := by rw [rangeSize_one]; split <;> omega
    show IsRangeIter _ _ (lo + ((0 : Nat) : Int) * 1) ((((hi - lo).toNat : Nat) : Int) - ((0 : Nat) : Int)) 1
    rw [e1, e2]
    exact Heap.get?_push_size _ rfl
  · have e : b = (s.heap.push { cls := .type "range", data := .fields #[.int lo t, .int hi u, .int 1 v] }).objs.size := by simpa using hb
    subst e
    exact I1.fpOk (Nat.le_refl _) (I1.hok.fresh (Nat.le_refl _))
noncomputable def iRng1 (ta : TA) : TI := fun σ H R => ta σ H fun vs H1 => ∃ j : Int, vs = [.int j] ∧ -(2 ^ 62) ≤ j ∧ j < 2 ^ 62 ∧ R (Itr 0 j.toNat) H1
theorem pi_range1 {a : Expr} {ta : TA} {p pos : Pos} (hg : Gl X "range") (hm : X.mg "range" = none) (ha : PA X [a] ta) (hs : starEach [a] X.env = [(false, eval a X.env)] := by rfl) : PI X tg (.Call (.Name "range" p) [a] [] pos) (iRng1 ta) := by
  intro pins s σ H R I h
  refine Call_ (ld_blt I hg hm boot_range (PyProof.Rows.callWith_type1 (thn (ha pos pins s σ H _ I h) fun us s1 ⟨vs, H1, I1, r1, q1⟩ => ?_) hs rfl))
  obtain ⟨j, e, q1, q2, q⟩ := q1
  subst e
  cases r1 with
  | cons r rr =>
    cases rr
    obtain ⟨t, rfl⟩ := r
    exact call_range_1 (range_it I1 (by omega) (by omega) q1 q2 (by simpa using q))
/-! ### for -/
/-- W: the invariant by the turn and a measure; N: what the body is to reach -/
noncomputable def tFor (wi : TI) (g : TG) (tb : TS) : TS := fun D σ H => wi σ H fun J H1 => ∃ W : Nat → Nat → St → Hp → Prop, (∃ m, W 0 m σ H1) ∧ ∀ i m σ H, W i m σ H →
  (J.stop i H ∧ D.nx σ H) ∨ (J.go i H ∧ ∃ N : St → Hp → Prop, (∀ σ' H', N σ' H' → ∃ m', m' < m ∧ W (i + 1) m' σ' H') ∧ ∀ x H', J.yld i H x H' → g x σ H' fun σ2 H2 => tb { D with nx := N, ct := N, bk := D.nx } σ2 H2)
/-- the records at fp as they stand -/
noncomputable def pinsAt (fp : List Addr) (h : Heap) : List (Addr × Obj) := fp.filterMap fun b => (h.get? b).map fun o => (b, o)
theorem mem_pinsAt {fp : List Addr} {h : Heap} {b : Addr} {o : Obj} (hb : b ∈ fp) (e : h.get? b = some o) : (b, o) ∈ pinsAt fp h := List.mem_filterMap.mpr ⟨b, hb, by rw [e]; rfl⟩
theorem of_pinsAt {fp : List Addr} {h : Heap} {p : Addr × Obj} (hp : p ∈ pinsAt fp h) : p.1 ∈ fp ∧ h.get? p.1 = some p.2 := by
  obtain ⟨b, hb, e⟩ := List.mem_filterMap.mp hp
  cases q : h.get? b with
  | none => rw [q] at e; cases e
  | some o =>
    rw [q] at e
    have e' : (b, o) = p := Option.some.inj e
    subst e'
    exact ⟨hb, q⟩
theorem Inv.pinned {pins : List (Addr × Obj)} {σ : St} {H : Hp} {s : Shared} {fp : List Addr} (I : Inv X pins σ H s) (hf : ∀ b ∈ fp, FpOk X pins H b) (ho : ∀ b ∈ fp, ∃ o, s.heap.get? b = some o ∧ ∀ v, o.data ≠ .cell v) : Inv X (pins ++ pinsAt fp s.heap) σ H s :=
  I.pins_of fun p hp => (List.mem_append.mp hp).elim (fun z => I.pin p (List.mem_append_right _ z)) fun z => by
    obtain ⟨hb, e⟩ := of_pinsAt z
    obtain ⟨f0, f1, f2, _⟩ := hf p.1 hb
    obtain ⟨o, e', d⟩ := ho p.1 hb
    rw [e] at e'; cases e'
    exact ⟨e, f0, f1, f2, d⟩
theorem Inv.unpinned {pins pl : List (Addr × Obj)} {σ : St} {H : Hp} {s : Shared} (I : Inv X (pins ++ pl) σ H s) : Inv X pins σ H s := I.pins_of fun p hp => I.pin p (List.mem_append_right _ (List.mem_append_left _ hp))
theorem ps_for {iter : Expr} {body : List Stmt} {wi : TI} {g : TG} {tb : TS} {pos : Pos} (hp : PassesOwn (model X.prog X.w) X.A X.env X.xe) (hc : X.calm = true) (hi : PI X tg iter wi) (hg : PG X tg g) (hb : PSs X body tb)
    (hs : ∀ x, foldedSetIterable iter X.env x = pure x := by intro _; rfl) : PS X (.For tg iter body [] pos) (tFor wi g tb) := by
  intro pins s σ H D I h
  refine wpAny_For (thn (hi pins s σ H _ I h) fun v s1 h1 => thn h1 fun itv s2 h2 => ?_) hs
  obtain ⟨it, fp, tn, J, H2, e, I2, T, st2, f2, W, ⟨m0, w0⟩, turn⟩ := h2
  subst e
  -- what stays true of the iterator's objects through the loop
  have stat : ∀ {H' : Hp}, (∀ b ∈ fp, H' b = none) → ∀ b ∈ fp, FpOk X pins H' b := fun hn b hb => ⟨hn b hb, (f2 b hb).2⟩
  refine codeAny_forLoop_any (fun n s' => ∃ i σ' H', Inv X pins σ' H' s' ∧ tn i s'.heap ∧ (∀ b ∈ fp, H' b = none) ∧ W i n σ' H') ?_ m0 ⟨0, σ, H2, I2, st2, fun b hb => (f2 b hb).1, w0⟩
  rintro n s3 ⟨i, σ3, H3, I3, st3, fr3, w3⟩
  rcases turn i n σ3 H3 w3 with ⟨stop, qn⟩ | ⟨go, N, hN, step⟩
  · refine wpAny_passesOwn hp (thn (T.done X rfl rfl rfl hc i pins s3 σ3 H3 X.xe I3 (stat fr3) st3 stop) fun r s4 ⟨hr, I4⟩ => ?_)
    subst hr
    exact wpAny_execs_nil ⟨σ3, H3, I4, qn⟩
  · refine wpAny_passesOwn hp (thn (T.item X rfl rfl rfl hc i pins s3 σ3 H3 X.xe I3 (stat fr3) st3 go) fun r s4 ⟨u, hr, h4⟩ => ?_)
    subst hr
    refine wpAny_passesOwn hp (thn h4 fun _ s5 ⟨x, H5, I5, r5, y5, st5, fr5⟩ => ?_)
    have I5' := I5.pinned (stat fr5) (T.obj _ _ st5)
    refine wpAny_passesOwn hp (thn (hg _ s5 σ3 H5 x u _ I5' r5 (step x H5 y5)) fun _ s6 ⟨σ6, H6, I6, q6⟩ => ?_)
    refine wpAny_passesOwn hp (thn (hb _ s6 σ6 H6 _ I6 q6) fun f s7 q7 => ?_)
    have again : ∀ {σ7 : St} {H7 : Hp}, Inv X (pins ++ pinsAt fp s5.heap) σ7 H7 s7 → N σ7 H7 → ∃ m, m < n ∧ ∃ i σ' H', Inv X pins σ' H' s7 ∧ tn i s7.heap ∧ (∀ b ∈ fp, H' b = none) ∧ W i m σ' H' := fun {σ7 H7} I7 n7 => by
      obtain ⟨m', hm, w7⟩ := hN σ7 H7 n7
      refine ⟨m', hm, i + 1, σ7, H7, I7.unpinned, T.keep _ _ _ st5 fun b hb o e => (I7.pin (b, o) (List.mem_append_right _ (List.mem_append_right _ (mem_pinsAt hb e)))).1, fun b hb => ?_, w7⟩
      obtain ⟨o, e, d⟩ := T.obj _ _ st5 b hb
      exact (I7.pin (b, o) (List.mem_append_right _ (List.mem_append_right _ (mem_pinsAt hb e)))).2.1
    cases f with
    | next => obtain ⟨σ7, H7, I7, n7⟩ := q7; exact again I7 n7
    | cont => obtain ⟨σ7, H7, I7, n7⟩ := q7; exact again I7 n7
    | brk => obtain ⟨σ7, H7, I7, q7⟩ := q7; exact ⟨σ7, H7, I7.unpinned, q7⟩
    | ret v => obtain ⟨x7, σ7, H7, I7, r7, q7⟩ := q7; exact ⟨x7, σ7, H7, I7.unpinned, r7, q7⟩
end

/-! ### the forms one uses -/
/-- over a list that the body leaves as it is -/
theorem for_list {K : PySem.W.Frag} {a : Addr} {xs : List V} {g : TG} {tb : TS} {D : Ends} {σ : St} {H : Hp} (Pv : Nat → St → Hp → Prop) (h0 : Pv 0 σ H) (hl : ∀ i σ H, i ≤ xs.length → Pv i σ H → SqL K H a xs)
    (hs : ∀ i x σ H, xs[i]? = some x → Pv i σ H → g x σ H fun σ2 H2 => tb { D with nx := Pv (i + 1), ct := Pv (i + 1), bk := D.nx } σ2 H2) (hd : ∀ σ H, Pv xs.length σ H → D.nx σ H) :
    ∃ W : Nat → Nat → St → Hp → Prop, (∃ m, W 0 m σ H) ∧ ∀ i m σ H, W i m σ H →
      ((Itl K a).stop i H ∧ D.nx σ H) ∨ ((Itl K a).go i H ∧ ∃ N : St → Hp → Prop, (∀ σ' H', N σ' H' → ∃ m', m' < m ∧ W (i + 1) m' σ' H') ∧ ∀ x H', (Itl K a).yld i H x H' → g x σ H' fun σ2 H2 => tb { D with nx := N, ct := N, bk := D.nx } σ2 H2) := by
  refine ⟨fun i m σ H => m = xs.length - i ∧ i ≤ xs.length ∧ Pv i σ H, ⟨xs.length, by simp, Nat.zero_le _, h0⟩, ?_⟩
  rintro i m σ H ⟨rfl, hi, p⟩
  have q := hl i σ H hi p
  by_cases hlt : i < xs.length
  · refine .inr ⟨⟨xs, xs[i], q, by simp [hlt]⟩, Pv (i + 1), fun σ' H' p' => ⟨xs.length - (i + 1), by omega, rfl, hlt, p'⟩, fun x H' y => ?_⟩
    obtain ⟨e, y⟩ := y
    subst e
    exact hs i x σ _ (y xs q) p
  · have e : i = xs.length := by omega
    subst e
    exact .inl ⟨⟨xs, q, Nat.le_refl _⟩, hd σ H p⟩
theorem for_range {lo : Int} {n : Nat} {g : TG} {tb : TS} {D : Ends} {σ : St} {H : Hp} (Pv : Nat → St → Hp → Prop) (h0 : Pv 0 σ H)
    (hs : ∀ i σ H, i < n → Pv i σ H → g (.int (lo + i)) σ H fun σ2 H2 => tb { D with nx := Pv (i + 1), ct := Pv (i + 1), bk := D.nx } σ2 H2) (hd : ∀ σ H, Pv n σ H → D.nx σ H) :
    ∃ W : Nat → Nat → St → Hp → Prop, (∃ m, W 0 m σ H) ∧ ∀ i m σ H, W i m σ H →
      ((Itr lo n).stop i H ∧ D.nx σ H) ∨ ((Itr lo n).go i H ∧ ∃ N : St → Hp → Prop, (∀ σ' H', N σ' H' → ∃ m', m' < m ∧ W (i + 1) m' σ' H') ∧ ∀ x H', (Itr lo n).yld i H x H' → g x σ H' fun σ2 H2 => tb { D with nx := N, ct := N, bk := D.nx } σ2 H2) := by
  refine ⟨fun i m σ H => m = n - i ∧ i ≤ n ∧ Pv i σ H, ⟨n, by simp, Nat.zero_le _, h0⟩, ?_⟩
  rintro i m σ H ⟨rfl, hi, p⟩
  by_cases hlt : i < n
  · refine .inr ⟨hlt, Pv (i + 1), fun σ' H' p' => ⟨n - (i + 1), by omega, rfl, hlt, p'⟩, fun x H' y => ?_⟩
    obtain ⟨e, y⟩ := y
    subst e y
    exact hs i σ _ hlt p
  · have e : i = n := by omega
    subst e
    exact .inl ⟨Nat.le_refl _, hd σ H p⟩
end L2

namespace L2
open PySem PySem.Spec PyProof.Rows

noncomputable abbrev R2 := V → V → Hp → VK → Prop
/-- a two-place operation on values: f is binaryOp op, inplaceOp op or compareOp op -/
noncomputable def OpR (X : Cx) (f : Value → Value → Sem Value) (r : R2) : Prop :=
  ∀ (pins : List (Addr × Obj)) (s : Shared) (σ : St) (H : Hp) (x y : V) (v u : Value) (Q : VK), Inv X pins σ H s → RelV x v → RelV y u → r x y H Q →
    wpAny (model X.prog X.w) X.A (f v u) (EP X pins σ Q) X.xe s
/-- a one-place operation -/
noncomputable def UnR (X : Cx) (f : Value → Sem Value) (r : V → Hp → VK → Prop) : Prop :=
  ∀ (pins : List (Addr × Obj)) (s : Shared) (σ : St) (H : Hp) (x : V) (v : Value) (Q : VK), Inv X pins σ H s → RelV x v → r x H Q →
    wpAny (model X.prog X.w) X.A (f v) (EP X pins σ Q) X.xe s
/-- a call of a value that is known (a builtin, a type) with values -/
noncomputable def CallR (X : Cx) (f : Value) (r : List V → Hp → VK → Prop) : Prop :=
  ∀ (pins : List (Addr × Obj)) (s : Shared) (σ : St) (H : Hp) (xs : List V) (us : List Value) (Q : VK), Inv X pins σ H s → Vals xs us → r xs H Q →
    wpAny (model X.prog X.w) X.A (call f us) (EP X pins σ Q) X.xe s
noncomputable def tOp (r : R2) (ta tb : TE) : TE := fun σ H Q => ta σ H fun x H1 => tb σ H1 fun y H2 => r x y H2 Q
noncomputable def tUn (r : V → Hp → VK → Prop) (ta : TE) : TE := fun σ H Q => ta σ H fun x H1 => r x H1 Q
/-- ints in, under C, and a value out -/
noncomputable def rI (C : Int → Int → Prop) (g : Int → Int → V) : R2 := fun x y H Q => ∃ i j, x = .int i ∧ y = .int j ∧ C i j ∧ Q (g i j) H
noncomputable def rI0 (g : Int → Int → V) : R2 := fun x y H Q => ∃ i j, x = .int i ∧ y = .int j ∧ Q (g i j) H
noncomputable def rU (g : Int → V) : V → Hp → VK → Prop := fun x H Q => ∃ i, x = .int i ∧ Q (g i) H

section
variable {X : Cx} {a b c : Expr} {ta tb tc : TE} {pos : Pos}

theorem binT (ha : PE X a ta) (hb : PE X b tb) {pins : List (Addr × Obj)} {s : Shared} {σ : St} {H : Hp} {R : V → V → Hp → Prop} (I : Inv X pins σ H s)
    (h : ta σ H fun x H1 => tb σ H1 fun y H2 => R x y H2) {Q : Value → Shared → Prop} {f : Value → Value → Sem Value}
    (hf : ∀ v u s2 x y H2, Inv X pins σ H2 s2 → RelV x v → RelV y u → R x y H2 → wpAny (model X.prog X.w) X.A (f v u) Q X.xe s2) :
    wpAny (model X.prog X.w) X.A (eval a X.env) (fun v s₁ => wpAny (model X.prog X.w) X.A (eval b X.env) (fun u s₂ => wpAny (model X.prog X.w) X.A (f v u) Q X.xe s₂) X.xe s₁) X.xe s := by
  refine thn (ha pins s σ H _ I h) fun v s1 ⟨x, H1, I1, r1, q1⟩ => ?_
  refine thn (hb pins s1 σ H1 _ I1 q1) fun u s2 ⟨y, H2, I2, r2, q2⟩ => ?_
  exact hf v u s2 x y H2 I2 r1 r2 q2

theorem pe_op {op : Operator} {r : R2} (ho : OpR X (binaryOp op) r) (ha : PE X a ta) (hb : PE X b tb) : PE X (.BinOp a op b pos) (tOp r ta tb) := by
  intro pins s σ H Q I h
  exact wpAny_BinOp (binT ha hb I h fun v u s2 x y H2 I2 rx ry q => ho pins s2 σ H2 x y v u Q I2 rx ry q)
theorem pe_un {op : UnaryOp} {r : V → Hp → VK → Prop} (ho : UnR X (unaryOp op) r) (ha : PE X a ta) : PE X (.UnaryOp op a pos) (tUn r ta) := by
  intro pins s σ H Q I h
  exact UnaryOp_ (thn (ha pins s σ H _ I h) fun v s1 ⟨x, H1, I1, r1, q1⟩ => ho pins s1 σ H1 x v Q I1 r1 q1)
/-! ### ints -/
theorem opI {f : Value → Value → Sem Value} {C : Int → Int → Prop} {g : Int → Int → Int}
    (rule : ∀ (i j : Int) (t u : Tok) (s : Shared) (Q : Value → Shared → Prop) (E : Value → Shared → Prop), C i j → Q (.int (g i j) s.toks) { s with toks := s.toks + 1 } → wpAny (model X.prog X.w) X.A (f (.int i t) (.int j u)) Q E s) :
    OpR X f (rI C fun i j => .int (g i j)) := by
  intro pins s σ H x y v u Q I rx ry h
  obtain ⟨i, j, rfl, rfl, hc, q⟩ := h
  obtain ⟨t, rfl⟩ := rx
  obtain ⟨t', rfl⟩ := ry
  exact rule i j t t' s _ _ hc ⟨.int (g i j), H, I.tok _, ⟨_, rfl⟩, q⟩
theorem opI0 {f : Value → Value → Sem Value} {g : Int → Int → Int}
    (rule : ∀ (i j : Int) (t u : Tok) (s : Shared) (Q : Value → Shared → Prop) (E : Value → Shared → Prop), Q (.int (g i j) s.toks) { s with toks := s.toks + 1 } → wpAny (model X.prog X.w) X.A (f (.int i t) (.int j u)) Q E s) :
    OpR X f (rI0 fun i j => .int (g i j)) := by
  intro pins s σ H x y v u Q I rx ry h
  obtain ⟨i, j, rfl, rfl, q⟩ := h
  obtain ⟨t, rfl⟩ := rx
  obtain ⟨t', rfl⟩ := ry
  exact rule i j t t' s _ _ ⟨.int (g i j), H, I.tok _, ⟨_, rfl⟩, q⟩
theorem opB0 {f : Value → Value → Sem Value} {g : Int → Int → Bool}
    (rule : ∀ (i j : Int) (t u : Tok) (s : Shared) (Q : Value → Shared → Prop) (E : Value → Shared → Prop), Q (.bool (g i j)) s → wpAny (model X.prog X.w) X.A (f (.int i t) (.int j u)) Q E s) :
    OpR X f (rI0 fun i j => .bl (g i j)) := by
  intro pins s σ H x y v u Q I rx ry h
  obtain ⟨i, j, rfl, rfl, q⟩ := h
  obtain ⟨t, rfl⟩ := rx
  obtain ⟨t', rfl⟩ := ry
  exact rule i j t t' s _ _ ⟨.bl (g i j), H, I, rfl, q⟩

noncomputable def CDiv (i j : Int) : Prop := 0 < j ∧ j < 1073741824
noncomputable def CPow (i j : Int) : Prop := 0 ≤ j ∧ j ≤ 1000000 ∧ i.natAbs < 2 ^ 64
noncomputable def CMul (i j : Int) : Prop := (-(2 ^ 64) < i ∧ i < 2 ^ 64) ∨ (-(2 ^ 64) < j ∧ j < 2 ^ 64)
theorem CMul.ok {i j : Int} (h : CMul i j) : IntMulOk i j := by
  rcases h with ⟨h1, h2⟩ | ⟨h1, h2⟩
  · exact .of_left (intBits_le_64 h1 h2)
  · exact .of_right (intBits_le_64 h1 h2)
theorem two_pow_nn (k : Nat) : (0 : Int) ≤ 2 ^ k := by
  rw [two_pow_cast]
  exact Int.natCast_nonneg _

theorem op_add : OpR X (binaryOp .Add) (rI0 fun i j => .int (i + j)) := opI0 fun _ _ _ _ _ _ _ q => add_int q
theorem op_mul : OpR X (binaryOp .Mult) (rI CMul fun i j => .int (i * j)) := opI fun _ _ _ _ _ _ _ hc q => mul_int q hc.ok
/-- // by a positive divisor -/
theorem op_fdiv : OpR X (binaryOp .FloorDiv) (rI CDiv fun i j => .int (i / j)) := opI fun i j _ _ _ _ _ hc q => by
  have h1 : (0 : Int) < j := hc.1
  have h2 : j < 1073741824 := hc.2
  exact floordiv_int (by omega) (by rw [Int.fdiv_eq_ediv_of_nonneg i (by omega)]; exact q) (.inl (PyProof.noPylong_small (by omega)))
/-- % by a positive divisor of any size -/
theorem op_mod : OpR X (binaryOp .Mod) (rI (fun _ j => 0 < j) fun i j => .int (i % j)) := opI fun i j _ _ _ _ _ hc q => by
  have h1 : (0 : Int) < j := hc
  exact mod_int' (by omega) (by rw [Int.fmod_eq_emod_of_nonneg i (by omega)]; exact q)
theorem op_shl : OpR X (binaryOp .LShift) (rI CPow fun i j => .int (i * 2 ^ j.toNat)) := opI fun _ _ _ _ _ _ _ hc q => lshift_int_small hc.1 hc.2.1 hc.2.2 q
theorem op_shr : OpR X (binaryOp .RShift) (rI (fun _ j => 0 ≤ j) fun i j => .int (i / 2 ^ j.toNat)) := opI fun i j _ _ _ _ _ hc q =>
  rshift_int hc (by rw [Int.fdiv_eq_ediv_of_nonneg i (two_pow_nn _)]; exact q)
theorem op_and : OpR X (binaryOp .BitAnd) (rI0 fun i j => .int (Builtin.bitAnd i j)) := opI0 fun _ _ _ _ _ _ _ q => and_int q
theorem op_or : OpR X (binaryOp .BitOr) (rI0 fun i j => .int (Builtin.bitOr i j)) := opI0 fun _ _ _ _ _ _ _ q => or_int q
theorem unI {f : Value → Sem Value} {g : Int → Int}
    (rule : ∀ (i : Int) (t : Tok) (s : Shared) (Q : Value → Shared → Prop) (E : Value → Shared → Prop), Q (.int (g i) s.toks) { s with toks := s.toks + 1 } → wpAny (model X.prog X.w) X.A (f (.int i t)) Q E s) :
    UnR X f (rU fun i => .int (g i)) := by
  intro pins s σ H x v Q I rx h
  obtain ⟨i, rfl, q⟩ := h
  obtain ⟨t, rfl⟩ := rx
  exact rule i t s _ _ ⟨.int (g i), H, I.tok _, ⟨_, rfl⟩, q⟩
theorem un_neg : UnR X (unaryOp .USub) (rU fun i => .int (-i)) := unI fun _ _ _ _ _ q => neg_int q
/-! ### bools among ints: n += (a < b) -/
end

/-! ### comparisons -/
/-- the scalars that == tells apart as data does -/
noncomputable def scal : V → V → Bool
  | .non, .non => true | .non, .int _ => true | .int _, .non => true | .non, .bl _ => true | .bl _, .non => true | .non, .str _ => true | .str _, .non => true
  | .int _, .int _ => true | .bl _, .bl _ => true | .str _, .str _ => true | .byt _, .byt _ => true
  | .int _, .str _ => true | .str _, .int _ => true | .bl _, .str _ => true | .str _, .bl _ => true
  | _, _ => false
noncomputable def rEq : R2 := fun x y H Q => scal x y = true ∧ Q (.bl (decide (x = y))) H
noncomputable def rNe : R2 := fun x y H Q => scal x y = true ∧ Q (.bl (!decide (x = y))) H

theorem dec_int {i j : Int} : decide (V.int i = V.int j) = (i == j) := by
  rw [Bool.eq_iff_iff]
  simp
theorem dec_bl {i j : Bool} : decide (V.bl i = V.bl j) = (i == j) := by
  rw [Bool.eq_iff_iff]
  simp
theorem dec_str {i j : Str} : decide (V.str i = V.str j) = (i == j) := by
  rw [Bool.eq_iff_iff]
  simp
theorem dec_byt {i j : Array UInt8} : decide (V.byt i = V.byt j) = (i.toList == j.toList) := by
  rw [Bool.eq_iff_iff]
  cases i
  cases j
  simp

section
variable {X : Cx} {a b c : Expr} {ta tb tc : TE} {pos : Pos}
theorem fin_bl {pins : List (Addr × Obj)} {σ : St} {H : Hp} {s : Shared} {Q : VK} {k k' : Bool} (I : Inv X pins σ H s) (q : Q (.bl k) H) (e : k = k') : EP X pins σ Q (.bool k') s := by
  subst e
  exact ⟨.bl k, H, I, rfl, q⟩
theorem op_eq : OpR X (compareOp .Eq) rEq := by
  intro pins s σ H x y v u Q I rx ry h
  obtain ⟨hs, q⟩ := h
  cases x with
  | non =>
    cases rx
    cases y with
    | non => cases ry; exact PySem.EqNone.eq_none_none (fin_bl I q (by simp))
    | bl j => cases ry; exact PySem.EqNone.eq_none_bool (fin_bl I q (by simp))
    | int j => obtain ⟨t', rfl⟩ := ry; exact PySem.EqNone.eq_none_int (fin_bl I q (by simp))
    | str j => obtain ⟨t', rfl⟩ := ry; exact PySem.EqNone.eq_none_str (fin_bl I q (by simp))
    | _ => exact absurd (show false = true from hs) Bool.false_ne_true
  | bl i =>
    cases rx
    cases y with
    | non => cases ry; exact PySem.EqNone.eq_bool_none (fin_bl I q (by simp))
    | bl j => cases ry; exact eq_bool (fin_bl I q dec_bl)
    | str j => obtain ⟨t', rfl⟩ := ry; exact PySem.EqMixed.eq_bool_str (fin_bl I q (by simp))
    | _ => exact absurd (show false = true from hs) Bool.false_ne_true
  | int i =>
    obtain ⟨t, rfl⟩ := rx
    cases y with
    | non => cases ry; exact PySem.EqNone.eq_int_none (fin_bl I q (by simp))
    | int j => obtain ⟨t', rfl⟩ := ry; exact eq_int (fin_bl I q dec_int)
    | str j => obtain ⟨t', rfl⟩ := ry; exact PySem.EqMixed.eq_int_str (fin_bl I q (by simp))
    | _ => exact absurd (show false = true from hs) Bool.false_ne_true
  | str i =>
    obtain ⟨t, rfl⟩ := rx
    cases y with
    | non => cases ry; exact PySem.EqNone.eq_str_none (fin_bl I q (by simp))
    | bl j => cases ry; exact PySem.EqMixed.eq_str_bool (fin_bl I q (by simp))
    | int j => obtain ⟨t', rfl⟩ := ry; exact PySem.EqMixed.eq_str_int (fin_bl I q (by simp))
    | str j => obtain ⟨t', rfl⟩ := ry; exact eq_str (fin_bl I q dec_str)
    | _ => exact absurd (show false = true from hs) Bool.false_ne_true
  | byt i =>
    obtain ⟨t, rfl⟩ := rx
    cases y with
    | byt j => obtain ⟨t', rfl⟩ := ry; exact PySem.W.eq_bytes (fin_bl I q dec_byt)
    | _ => exact absurd (show false = true from hs) Bool.false_ne_true
  | _ => cases y <;> exact absurd (show false = true from hs) Bool.false_ne_true
theorem op_ne : OpR X (compareOp .NotEq) rNe := by
  intro pins s σ H x y v u Q I rx ry h
  obtain ⟨hs, q⟩ := h
  cases x with
  | non =>
    cases rx
    cases y with
    | non => cases ry; exact PySem.EqNone.ne_none_none (fin_bl I q (by simp))
    | bl j => cases ry; exact PySem.EqNone.ne_none_bool (fin_bl I q (by simp))
    | int j => obtain ⟨t', rfl⟩ := ry; exact PySem.EqNone.ne_none_int (fin_bl I q (by simp))
    | str j => obtain ⟨t', rfl⟩ := ry; exact PySem.EqNone.ne_none_str (fin_bl I q (by simp))
    | _ => exact absurd (show false = true from hs) Bool.false_ne_true
  | bl i =>
    cases rx
    cases y with
    | non => cases ry; exact PySem.EqNone.ne_bool_none (fin_bl I q (by simp))
    | bl j => cases ry; exact ne_bool (fin_bl I q (congrArg not dec_bl))
    | str j => obtain ⟨t', rfl⟩ := ry; exact PySem.EqMixed.ne_bool_str (fin_bl I q (by simp))
    | _ => exact absurd (show false = true from hs) Bool.false_ne_true
  | int i =>
    obtain ⟨t, rfl⟩ := rx
    cases y with
    | non => cases ry; exact PySem.EqNone.ne_int_none (fin_bl I q (by simp))
    | int j => obtain ⟨t', rfl⟩ := ry; exact ne_int (fin_bl I q (congrArg not dec_int))
    | str j => obtain ⟨t', rfl⟩ := ry; exact PySem.EqMixed.ne_int_str (fin_bl I q (by simp))
    | _ => exact absurd (show false = true from hs) Bool.false_ne_true
  | str i =>
    obtain ⟨t, rfl⟩ := rx
    cases y with
    | non => cases ry; exact PySem.EqNone.ne_str_none (fin_bl I q (by simp))
    | bl j => cases ry; exact PySem.EqMixed.ne_str_bool (fin_bl I q (by simp))
    | int j => obtain ⟨t', rfl⟩ := ry; exact PySem.EqMixed.ne_str_int (fin_bl I q (by simp))
    | str j => obtain ⟨t', rfl⟩ := ry; exact ne_str (fin_bl I q (congrArg not dec_str))
    | _ => exact absurd (show false = true from hs) Bool.false_ne_true
  | byt i =>
    obtain ⟨t, rfl⟩ := rx
    cases y with
    | byt j => obtain ⟨t', rfl⟩ := ry; exact PySem.W.ne_bytes (fin_bl I q (congrArg not dec_byt))
    | _ => exact absurd (show false = true from hs) Bool.false_ne_true
  | _ => cases y <;> exact absurd (show false = true from hs) Bool.false_ne_true

theorem op_lt : OpR X (compareOp .Lt) (rI0 fun i j => .bl (decide (i < j))) := opB0 fun _ _ _ _ _ _ _ q => lt_int q
theorem op_le : OpR X (compareOp .LtE) (rI0 fun i j => .bl (decide (i ≤ j))) := opB0 fun _ _ _ _ _ _ _ q => le_int q
theorem op_gt : OpR X (compareOp .Gt) (rI0 fun i j => .bl (decide (j < i))) := opB0 fun _ _ _ _ _ _ _ q => gt_int q
/-- is None, is not None: the right side a value none -/
theorem op_isN : OpR X (compareOp .Is) (fun x y H Q => y = .non ∧ Q (.bl (decide (x = .non))) H) := by
  intro pins s σ H x y v u Q I rx ry h
  obtain ⟨rfl, q⟩ := h
  cases ry
  refine is_none_gen (fin_bl I q ?_)
  cases x <;> first
    | (cases rx; rfl)
    | (obtain ⟨t, rfl⟩ := rx; rfl)
theorem nomark (b : Expr) {op : CmpOp} (h : op ≠ .In := by decide) (h2 : op ≠ .NotIn := by decide) : behindInMarks op b = false := by
  have e1 : (op == CmpOp.In) = false := by cases op <;> first | rfl | exact absurd rfl h
  have e2 : (op == CmpOp.NotIn) = false := by cases op <;> first | rfl | exact absurd rfl h2
  cases b <;> simp [behindInMarks, e1, e2]
/-- a comparison as a value; hm: nomark b, or (for in, not in) by with_unfolding_all rfl -/
theorem pe_cmpR {op : CmpOp} {r : R2} (ho : OpR X (compareOp op) r) (ha : PE X a ta) (hb : PE X b tb) (hm : behindInMarks op b = false) : PE X (.Compare a [op] [b] pos) (tOp r ta tb) := by
  intro pins s σ H Q I h
  exact wpAny_Compare1 (binT ha hb I h fun v u s2 x y H2 I2 rx ry q => ho pins s2 σ H2 x y v u Q I2 rx ry q) hm
/-- a reading of a value as a test -/
noncomputable def tTest (t : TE) : TT := fun σ H Q => t σ H fun x H' => ∃ k, x = .bl k ∧ Q k H'
theorem pt_cmpR {op : CmpOp} {r : R2} (ho : OpR X (compareOp op) r) (ha : PE X a ta) (hb : PE X b tb) (hm : behindInMarks op b = false) : PT X (.Compare a [op] [b] pos) (tTest (tOp r ta tb)) := by
  intro pins s σ H Q I h
  refine wpAny_isTrue_Compare1 (thn (ha pins s σ H _ I h) fun v s1 ⟨x, H1, I1, r1, q1⟩ => thn (hb pins s1 σ H1 _ I1 q1) fun u s2 ⟨y, H2, I2, r2, q2⟩ =>
    thn (ho pins s2 σ H2 x y v u _ I2 r1 r2 q2) fun c s3 ⟨z, H3, I3, r3, k, e, q3⟩ => ?_) hm
  subst e
  cases r3
  exact wpAny_truthy_bool ⟨H3, I3, q3⟩
/-! ### truth -/
theorem line63 : (sizeLine : Nat) < 2 ^ 63 := by rw [sizeLine_eq]; decide
/-! ### strs and bytes -/
theorem op_add_str : OpR X (binaryOp .Add) (fun x y H Q => ∃ i j, x = .str i ∧ y = .str j ∧ i.length + j.length ≤ sizeLine ∧ Q (.str (i ++ j)) H) := by
  intro pins s σ H x y v u Q I rx ry h
  obtain ⟨i, j, rfl, rfl, hz, q⟩ := h
  obtain ⟨t, rfl⟩ := rx
  obtain ⟨t', rfl⟩ := ry
  exact add_str (fun t' tk => ⟨.str (i ++ j), H, I.tok _, ⟨_, rfl⟩, q⟩) hz
/-! ### scalar builtins, by CallR -/
theorem vals1 {x : V} {us : List Value} (r : Vals [x] us) : ∃ u, us = [u] ∧ RelV x u := by
  cases r with
  | cons r1 r2 => cases r2; exact ⟨_, rfl, r1⟩
theorem vals2 {x y : V} {us : List Value} (r : Vals [x, y] us) : ∃ u w', us = [u, w'] ∧ RelV x u ∧ RelV y w' := by
  cases r with
  | cons r1 r2 =>
    cases r2 with
    | cons r3 r4 => cases r4; exact ⟨_, _, rfl, r1, r3⟩
end
end L2

namespace L2
open PySem PySem.Spec PyProof.Rows

/-! ### an instance, its attributes a map -/
structure ObjM (h : Heap) (x dx C : Addr) (mA : Str → Option Value) : Prop where
  obj : h.get? x = some (PySem.W.instObj C dx)
  ns : h.Ns1 dx mA
  ne : dx ≠ x

theorem lookIn_ns {h : Heap} {dx : Addr} {mA : Str → Option Value} (n : h.Ns1 dx mA) : ∃ od, h.get? dx = some od ∧ ∀ name, PySem.W.lookIn name od = some (mA name) := by
  obtain ⟨o, es, ep, ho, hd, hk, _, hm⟩ := n
  refine ⟨o, ho, fun name => ?_⟩
  have e := hm name
  unfold nsFind findBy at e
  rw [← Array.find?_toList] at e
  unfold PySem.W.lookIn
  rw [hd]
  dsimp only
  split
  · rename_i y q
    rw [q] at e
    exact congrArg some e
  · rename_i q
    rw [q] at e
    have a : es.toList.any (·.refKey) = false := by
      rw [List.any_eq_false]
      intro y hy
      obtain ⟨z, t, hkey⟩ := hk y (Array.mem_toList_iff.mp hy)
      simp [DictEntry.refKey, hkey]
    have a' : ¬ es.toList.any (·.refKey) = true := by rw [a]; exact Bool.false_ne_true
    rw [if_neg a']
    exact congrArg some e

theorem ObjM.look {h : Heap} {x dx C : Addr} {mA : Str → Option Value} (I : ObjM h x dx C mA) : ∃ od, PySem.W.InstAt h x (PySem.W.instObj C dx) C (some od) ∧ ∀ name, PySem.W.lookIn name od = some (mA name) :=
  let ⟨od, ho, hl⟩ := lookIn_ns I.ns
  ⟨od, ⟨I.obj, rfl, rfl, ho⟩, hl⟩

section
variable {prog : Program} {w : World} {A : Around} {E : Value → Shared → Prop} {s : Shared} {K : PySem.W.Frag} {x dx C f : Addr} {mA : Str → Option Value} {name : Str} {v : Value}

end

/-! ### the attributes as a list of pairs -/
section
variable {P : Program} {w : World} {H H' : Hp} {h h' : Heap} {a C dx : Addr} {fs fs' : List (Str × V)}
theorem ins_get (hok : HOk P w H h) (e : H a = some (.ins C dx fs)) : ∃ mA, ObjM h a dx C mA ∧ (∀ f, RelO (fs.lookup f) (mA f)) ∧ PySem.Within mA (fs.map (·.1)) ∧ fs.length ≤ 1000 ∧ H dx = some (.own a) := by
  obtain ⟨d, z, ne, ob, mA, n, r, q⟩ := (show ObjOk P w H h a (.ins C dx fs) from hok a _ e)
  exact ⟨mA, ⟨ob, n, ne⟩, r, q, z, d⟩
end

/-! ### what of the text a class must have -/
structure Cls (K : PySem.W.Frag) (C : Addr) : Prop where
  pg : PySem.W.plainGet K C Str.empty = true
  hd : PySem.W.hasDictIn K C = true
  po : PySem.W.plainOver K C = true
  sa : PySem.W.findIn K (.ref C) "__setattr__" = some (some (.builtin "object.__setattr__"))
theorem Cls.get {K : PySem.W.Frag} {C : Addr} (c : Cls K C) (f : Str) : PySem.W.plainGet K C f = true := c.pg
section
variable {X : Cx} {pins : List (Addr × Obj)} {σ : St} {H : Hp} {s : Shared} {a C dx : Addr} {fs : List (Str × V)} {f : Str} {v : V} {A : Around} {E : Value → Shared → Prop}

end

/-! ### readings and rules -/
section
variable {X : Cx} {o e value : Expr} {f : Str} {pos pos' tpos : Pos} {ta tv : TE}
end

/-! ### isinstance -/
section
variable {X : Cx} {pins : List (Addr × Obj)} {σ : St} {H : Hp} {s : Shared} {A : Around} {E : Value → Shared → Prop} {Q : Value → Shared → Prop} {c : Value} {b : Bool}
/-- the type of a value, as the fragment's deciders take it; for an instance its class -/
inductive TyOf (K : PySem.W.Frag) (H : Hp) : V → Value → Prop where
  | non : TyOf K H .non (.type "NoneType")
  | bl (x : Bool) : TyOf K H (.bl x) (.type "bool")
  | int (i : Int) : TyOf K H (.int i) (.type "int")
  | str (x : Str) : TyOf K H (.str x) (.type "str")
  | flt (x : UInt64) : TyOf K H (.flt x) (.type "float")
  | lst {a : Addr} {xs : List V} (e : H a = some (.lst xs)) : TyOf K H (.ref a) (.type "list")
  | frz {a : Addr} {o : Obj} {xs : List V} (e : H a = some (.frz o (.lst xs))) : TyOf K H (.ref a) (.type "list")
  | tup {a : Addr} {xs : List V} (e : H a = some (.tup xs)) : TyOf K H (.ref a) (.type "tuple")
  | dK {a : Addr} {kvs : List (Key × V)} (e : H a = some (.dK kvs)) : TyOf K H (.ref a) (.type "dict")
  | dT {a : Addr} {kvs : List (List Key × V)} (e : H a = some (.dT kvs)) : TyOf K H (.ref a) (.type "dict")
  | ins {a C dx : Addr} {fs : List (Str × V)} (e : H a = some (.ins C dx fs)) (cl : Cls K C) (ha : PySem.W.findIn K (.ref C) "__class__" = some (some (.builtin "object.__class__")))
      (hn : PySem.W.specialIn K (.builtin "object.__class__") "__get__" = some (some (.builtin "getset_descriptor.__get__"))) (htk : PySem.W.takesIn K (.builtin "object.__class__") = some true)
      (hm : PySem.W.mroIn K C (.type "object") = some true) : TyOf K H (.ref a) (.ref C)
/-- isinstance(x, c) for one class c, a built-in or an own one: kitOne's answer -/
theorem isinst_ok {x : V} {u t : Value} (I : Inv X pins σ H s) (rx : RelV x u) (ty : TyOf X.K H x t) (e : PySem.W.kitOne X.K t c = some b) (h : ∀ tk, Q (.bool b) { s with toks := tk }) :
    wpAny (model X.prog X.w) A (call (.builtin "isinstance") [u, c]) Q E s := by
  cases ty with
  | non => cases (show u = Value.none from rx); exact PySem.W.kia_one PySem.W.kitx_none I.kIn True.intro e (fun z => nomatch z) h
  | bl y => cases (show u = Value.bool y from rx); exact PySem.W.kia_one PySem.W.kitx_bool I.kIn True.intro e (fun z => nomatch z) h
  | int i => obtain ⟨t, q⟩ := (show ∃ t, u = Value.int i t from rx); cases q; exact PySem.W.kia_one PySem.W.kitx_int I.kIn True.intro e (fun z => nomatch z) h
  | str y => obtain ⟨t, q⟩ := (show ∃ t, u = Value.str y t from rx); cases q; exact PySem.W.kia_one PySem.W.kitx_str I.kIn True.intro e (fun z => nomatch z) h
  | flt y => obtain ⟨t, q⟩ := (show ∃ t, u = Value.float y t from rx); cases q; exact PySem.W.kia_one PySem.W.kitx_float I.kIn True.intro e (fun z => nomatch z) h
  | @lst a xs ea =>
    cases (show u = Value.ref a from rx)
    obtain ⟨_, _, n, _, h1⟩ := (show ObjOk X.prog X.w H s.heap a (.lst xs) from I.hok a _ ea)
    exact PySem.W.kia_one PySem.W.kitx_list I.kIn ⟨_, h1, rfl⟩ e (fun z => nomatch z) h
  | @frz a ob xs ea =>
    cases (show u = Value.ref a from rx)
    obtain ⟨_, _, _, n, _, h1⟩ := (show ObjOk X.prog X.w H s.heap a (.frz ob (.lst xs)) from I.hok a _ ea)
    exact PySem.W.kia_one PySem.W.kitx_list I.kIn ⟨_, h1, rfl⟩ e (fun z => nomatch z) h
  | @tup a xs ea =>
    cases (show u = Value.ref a from rx)
    obtain ⟨_, _, _, p⟩ := (show ObjOk X.prog X.w H s.heap a (.tup xs) from I.hok a _ ea)
    obtain ⟨o, h1, h2, _⟩ := p
    exact PySem.W.kia_one PySem.W.kitx_tuple I.kIn ⟨o, h1, h2⟩ e (fun z => nomatch z) h
  | @dK a kvs ea =>
    cases (show u = Value.ref a from rx)
    obtain ⟨_, _, vs, _, p⟩ := (show ObjOk X.prog X.w H s.heap a (.dK kvs) from I.hok a _ ea)
    obtain ⟨o, es, ep, h1, h2, _⟩ := p
    exact PySem.W.kia_one PySem.W.kitx_dict I.kIn ⟨o, h1, h2.1⟩ e (fun z => nomatch z) h
  | @dT a kvs ea =>
    cases (show u = Value.ref a from rx)
    obtain ⟨_, _, xs, _, o, es, ep, h1, h2, _⟩ := (show ObjOk X.prog X.w H s.heap a (.dT kvs) from I.hok a _ ea)
    exact PySem.W.kia_one PySem.W.kitx_dict I.kIn ⟨o, h1, h2.1⟩ e (fun z => nomatch z) h
  | @ins a C dx fs ea cl ha hn htk hm =>
    cases (show u = Value.ref a from rx)
    obtain ⟨mA, O, _⟩ := ins_get I.hok ea
    obtain ⟨od, J, _⟩ := O.look
    exact PySem.W.kia_one (PySem.W.kitx_own (cl.get _) cl.hd ha hn htk hm) I.kIn J e (fun z => nomatch z) h
end
end L2

namespace L2
open PySem PySem.Spec PyProof.Rows

/-! ### room -/
structure Room (k : Nat) (A : Around) : Prop where
  hd : A.handled = none
  dp : A.depth + 3 * k + 5 < recursionLimit
  un : A.units + 16 * k + 200 < cLine
theorem Room.mono {j k : Nat} {A : Around} (r : Room k A) (h : j ≤ k) : Room j A := ⟨r.hd, by have := r.dp; omega, by have := r.un; omega⟩
theorem Room.deeper {k : Nat} {A : Around} (r : Room (k + 1) A) (env : Env) : Room k (A.deeper env) :=
  ⟨r.hd, by have := r.dp; show A.depth + 1 + 3 * k + 5 < _; omega, by have := r.un; show A.units + 3 + 16 * k + 200 < _; omega⟩
theorem Room.depth {k : Nat} {A : Around} (r : Room k A) : A.depth < recursionLimit := by have := r.dp; omega
theorem Room.units {k : Nat} {A : Around} (r : Room k A) : A.units + 64 < cLine := by have := r.un; omega
/-! ### argument lists and displays -/
noncomputable def tNil : TA := fun _ H Q => Q [] H
noncomputable def tCons (ta : TE) (tr : TA) : TA := fun σ H Q => ta σ H fun x H1 => tr σ H1 fun xs H2 => Q (x :: xs) H2
section
variable {X : Cx} {e : Expr} {es : List Expr} {te : TE} {t : TA} {pos : Pos}
theorem pa_nil : PA X [] tNil := fun _ _ _ _ H Q I h => Calls.spliced_nil ⟨[], H, I, .nil, h⟩
theorem pa_cons (ha : PE X e te) (hr : PA X es t) (hs : starEach (e :: es) X.env = (false, eval e X.env) :: starEach es X.env := by rfl) : PA X (e :: es) (tCons te t) := by
  intro pos pins s σ H Q I h
  rw [hs]
  show wpAny _ _ (spliced ((false, eval e X.env) :: backTo pos (starEach es X.env))) _ _ s
  refine Calls.spliced_cons (thn (ha pins s σ H _ I h) fun u s1 ⟨x, H1, I1, r1, q1⟩ => ?_)
  exact thn (hr pos pins s1 σ H1 _ I1 q1) fun us s2 ⟨xs, H2, I2, r2, q2⟩ => ⟨x :: xs, H2, I2, .cons r1 r2, q2⟩

/-- a tuple, a list of written items -/
noncomputable def tTup (t : TA) : TE := fun σ H Q => t σ H fun xs H1 => xs.length ≤ sizeLine ∧ ∀ p, H1 p = none → Q (.ref p) (upd H1 p (.tup xs))
noncomputable def tLst (t : TA) : TE := fun σ H Q => t σ H fun xs H1 => xs.length ≤ sizeLine ∧ ∀ p, H1 p = none → Q (.ref p) (upd H1 p (.lst xs))
theorem pe_tup {x1} (h : PA X es t) : PE X (.Tuple es x1 pos) (tTup t) := by
  intro pins s σ H Q I hq
  refine wpAny_Tuple_spliced (thn (h pos pins s σ H _ I hq) fun us s1 ⟨xs, H1, I1, r, z, q⟩ => ⟨by rw [← r.length]; exact z, ?_⟩)
  have hf : H1 s1.heap.objs.size = none := I1.hok.fresh (Nat.le_refl _)
  refine ⟨.ref s1.heap.objs.size, upd H1 s1.heap.objs.size (.tup xs), I1.laid (t' := s1.toks) (fun b u e => Heap.get?_push_of_some _ e) (Nat.le_refl _) ?_, rfl, q _ hf⟩
  exact ⟨z, us, r, ⟨_, Heap.get?_push_size _ rfl, rfl, _, rfl⟩⟩
theorem pe_lst (h : PA X es t) : PE X (.List es pos) (tLst t) := by
  intro pins s σ H Q I hq
  refine wpAny_List_spliced (thn (h pos pins s σ H _ I hq) fun us s1 ⟨xs, H1, I1, r, z, q⟩ => ⟨by rw [← r.length]; exact z, ?_⟩)
  have hf : H1 s1.heap.objs.size = none := I1.hok.fresh (Nat.le_refl _)
  refine ⟨.ref s1.heap.objs.size, upd H1 s1.heap.objs.size (.lst xs), I1.laid (t' := s1.toks) (fun b u e => Heap.get?_push_of_some _ e) (Nat.le_refl _) ?_, rfl, q _ hf⟩
  exact ⟨z, us, 0, r, Heap.get?_push_size _ rfl⟩
end

/-! ### what a def promises -/
/-- a def's promise: the bound arguments in the parameters' order, the heap, the wanted end, the wanted exception -/
noncomputable abbrev Sp := List V → Hp → VK → XK → Prop
/-- how an exception lies behind a call (file 08 gives it): the callers' frames, abstract heap and state ahead of the call, the wish, the exception, the state -/
noncomputable abbrev CXT := List Env → Hp → Shared → XK → Value → Shared → Prop

/-- the state at a call -/
structure Env0 (P : Program) (w : World) (K : PySem.W.Frag) (mg : Str → Option Value) (base : Heap) (A : Around) (outer : List Env) (s : Shared) (H : Hp) : Prop where
  frames : A.frames = some outer
  mod : Mod K mg base
  bs : ∀ b o, base.get? b = some o → s.heap.get? b = some o ∧ H b = none
  bsz : base.objs.size ≤ s.heap.objs.size
  funs : s.heap.FunFrames base outer
  frf : ∀ b ∈ frs outer, H b = none
  hok : HOk P w H s.heap
  bare : AllBare s.gens
/-- a call's end -/
noncomputable def CE (outer : List Env) (P : Program) (w : World) (H : Hp) (s : Shared) (Q : VK) (u : Value) (s' : Shared) : Prop :=
  ∃ v H', s'.os = s.os ∧ AllBare s'.gens ∧ Un (frs outer) [] H H' s.heap s'.heap ∧ HOk P w H' s'.heap ∧ RelV v u ∧ Q v H'
noncomputable def CR (CX : CXT) (outer : List Env) (P : Program) (w : World) (H : Hp) (s : Shared) (Q : VK) (E : XK) (r : Result) (s' : Shared) : Prop :=
  match r with
  | .ok (.ret u) => CE outer P w H s Q u s'
  | .ok _ => False
  | .error e => CX outer H s E e s'
structure FnOk (P : Program) (w : World) (K : PySem.W.Frag) (mg : Str → Option Value) (base : Heap) (CX : CXT) (k : Nat) (f : Addr) (fd : FuncData) (ps : List Str) (sp : Sp) : Prop where
  len : ∀ vs H Q E, sp vs H Q E → vs.length = ps.length
  run : ∀ (A : Around) (outer : List Env) (s : Shared) (H : Hp) (args : Args) (us : List Value) (vs : List V) (Q : VK) (E : XK), Room k A → Env0 P w K mg base A outer s H → BindsTo s fd args (ps.zip us) → Vals vs us → sp vs H Q E →
    codeAny (model P w) A (.call (.ref f) args) (CR CX outer P w H s Q E) s
section
variable {X : Cx} {pins : List (Addr × Obj)} {σ : St} {H : Hp} {s s' : Shared}
/-- from a body: what a callee wants -/
theorem Inv.env0 (I : Inv X pins σ H s) : Env0 X.prog X.w X.K X.mg X.base X.A X.stack s H :=
  ⟨I.ok.frames, I.ok.mod, I.bs, Nat.le_trans I.ok.bsz I.sz, I.stack, I.stkFree, I.hok, I.bare⟩
/-- behind a call -/
theorem Inv.after {Q : VK} {u : Value} (I : Inv X pins σ H s) (h : CE X.stack X.prog X.w H s Q u s') : EP X pins σ Q u s' := by
  obtain ⟨v, H', os, bare, un, hok, r, q⟩ := h
  obtain ⟨hh, g, d, t, os'⟩ := s'
  obtain rfl : os' = s.os := os
  exact ⟨v, H', I.call (h' := hh) (g' := g) (d' := d) (t' := t) (ch := []) un hok bare (fun b z => absurd z (by simp)), r, q⟩
end

/-! ### calls -/
/-- f(..): the written arguments, then the defaults dvs; E: what is wanted of an exception -/
noncomputable def tCall (sp : Sp) (dvs : List V) (E : XK) (t : TA) : TE := fun σ H Q => t σ H fun vs H1 => sp (vs ++ dvs) H1 Q E
/-- how the parameters are bound: us the positional arguments, kw the keywords' values by name, ds the defaults that fill up -/
noncomputable def Binds (K : PySem.W.Frag) (fd : FuncData) (ps : List Str) (ds : List Value) : Prop :=
  ∀ (s : Shared) (us : List Value), K.In s.heap → (us ++ ds).length = ps.length → BindsTo s fd ⟨us, []⟩ (ps.zip (us ++ ds))
/-- every parameter is given -/
theorem Binds.all {K : PySem.W.Frag} {fd : FuncData} {ps : List Str} (h : ∀ us : List Value, us.length = ps.length → bindArgs fd ⟨us, []⟩ = pure (ps.zip us)) : Binds K fd ps [] := fun s us _ hl => by
  rw [List.append_nil] at hl ⊢
  exact .of_eq (h us hl)

/-- an exception of a callee reaches what this body wants of exceptions -/
noncomputable def Passes (CX : CXT) (X : Cx) (E : XK) : Prop := ∀ (pins : List (Addr × Obj)) (σ : St) (H : Hp) (s : Shared) (e : Value) (s' : Shared), Inv X pins σ H s → CX X.stack H s E e s' → X.xe e s'

section
variable {X : Cx} {CX : CXT} {k : Nat} {f C : Addr} {fd : FuncData} {ps : List Str} {sp : Sp} {dvs : List V} {ds : List Value} {E : XK} {x m : Str} {p pos apos : Pos} {e o : Expr} {es : List Expr} {ta : TE} {t : TA}

/-- the callee runs -/
theorem run_fn {pins : List (Addr × Obj)} {σ : St} {H : Hp} {s : Shared} {Q : VK} {us : List Value} {vs : List V} (F : FnOk X.prog X.w X.K X.mg X.base CX k f fd ps sp) (hr : Room k X.A) (hb : Binds X.K fd ps ds) (hd : Vals dvs ds) (hx : Passes CX X E)
    (I : Inv X pins σ H s) (r : Vals vs us) (h : sp (vs ++ dvs) H Q E) : wpAny (model X.prog X.w) X.A (call (.ref f) us) (EP X pins σ Q) X.xe s := by
  have r2 : Vals (vs ++ dvs) (us ++ ds) := r.append hd
  have hl : (us ++ ds).length = ps.length := by rw [← r2.length]; exact F.len _ _ _ _ h
  refine wpAny_call (codeAny_mono (F.run X.A X.stack s H ⟨us, []⟩ (us ++ ds) (vs ++ dvs) Q E hr I.env0 (hb s us I.kIn hl) r2 h) fun r s' hq => ?_)
  cases r with
  | error e => exact hx pins σ H s e s' I hq
  | ok fl =>
    cases fl with
    | ret u => exact I.after hq
    | next => exact False.elim hq
    | brk => exact False.elim hq
    | cont => exact False.elim hq

theorem pe_call (F : FnOk X.prog X.w X.K X.mg X.base CX k f fd ps sp) (hr : Room k X.A) (hg : Gl X x) (hm : X.mg x = some (.ref f)) (hk : PySem.W.keepIn X.K (.ref f) = true) (hb : Binds X.K fd ps ds) (hd : Vals dvs ds) (hx : Passes CX X E)
    (ha : PA X (e :: es) t) (hdb : (x == ("__debug__" : Str)) = false := by decide) (he : starEach (e :: es) X.env = (false, eval e X.env) :: starEach es X.env := by rfl) (hpl : (backTo pos (starEach es X.env)).any (·.1) = false := by rfl) :
    PE X (.Call (.Name x p) (e :: es) [] pos) (tCall sp dvs E t) := by
  intro pins s σ H Q I h
  refine wpAny_Call_Name_kw (ld_glob I hg hm ?_ hdb)
  refine PySem.W.callWith_K (h₀ := X.base) I.ok.mod.kin hk (thn (ha pos pins s σ H _ I h) fun us s1 ⟨vs, H1, I1, r, q⟩ => ⟨I1.kIn, ?_⟩) he hpl
  exact run_fn F hr hb hd hx I1 r q
end

/-! ### keywords -/
section
variable {X : Cx} {CX : CXT} {k : Nat} {f C : Addr} {fd : FuncData} {ps ks : List Str} {sp : Sp} {E : XK} {x m : Str} {p pos apos kpos : Pos} {e o : Expr} {es : List Expr} {kws : List Keyword} {te ta : TE} {t tk : TA} {nm : Option Str}
variable {g : List Value → List Value → List Value} {gV : List V → List V → List V}
end

/-! ### a def's body keeps its promise -/
/-- names: the parameters first -/
structure FnScope (N P : List Str) (sc : Scope) : Prop where
  kind : sc.kind = .function
  co : sc.isCoroutine = false
  gen : sc.isGenerator = false
  nd : N.Nodup
  pre : N.take P.length = P
  par : ∀ x ∈ P, sc.names.lookup x = some .local ∨ sc.names.lookup x = some .cell
  nofree : ∀ y ∈ sc.names, y.2 ≠ .free

theorem bindL_out {kindOf : Str → Option NameKind} {x : Str} : ∀ {binds : List (Str × Value)} {m : Str → Option Value}, (∀ v, (x, v) ∉ binds) → bindL kindOf binds m x = m x
  | [], _, _ => rfl
  | (n, v) :: r, m, h => by
    unfold bindL
    rw [bindL_out fun w hw => h w (List.mem_cons_of_mem _ hw)]
    split
    · have : x ≠ n := by rintro rfl; exact h v List.mem_cons_self
      simp [this]
    · rfl
theorem bindC_out {kindOf : Str → Option NameKind} {x : Str} : ∀ {binds : List (Str × Value)} {m : Str → Option Value}, (∀ v, (x, v) ∉ binds) → bindC kindOf binds m x = m x
  | [], _, _ => rfl
  | (n, v) :: r, m, h => by
    unfold bindC
    rw [bindC_out fun w hw => h w (List.mem_cons_of_mem _ hw)]
    split
    · rfl
    · have : x ≠ n := by rintro rfl; exact h v List.mem_cons_self
      simp [this]
theorem bindL_get {kindOf : Str → Option NameKind} {x : Str} {v : Value} : ∀ {P : List Str} {vs : List Value} {i : Nat} {m : Str → Option Value}, P.Nodup → P[i]? = some x → vs[i]? = some v → kindOf x = some .local →
    bindL kindOf (P.zip vs) m x = some v
  | [], _, _, _, _, h, _, _ => by simp at h
  | _ :: _, [], _, _, _, _, h, _ => by simp at h
  | p :: P, w :: vs, 0, m, nd, h1, h2, hk => by
    simp at h1 h2; subst h1; subst h2
    show bindL kindOf ((p, w) :: P.zip vs) m p = _
    unfold bindL
    rw [bindL_out fun v hv => (List.nodup_cons.mp nd).1 (List.of_mem_zip hv).1, if_pos hk]
    simp
  | p :: P, w :: vs, i + 1, m, nd, h1, h2, hk => by
    show bindL kindOf ((p, w) :: P.zip vs) m x = _
    unfold bindL
    exact bindL_get (i := i) (List.nodup_cons.mp nd).2 (by simpa using h1) (by simpa using h2) hk
theorem bindC_get {kindOf : Str → Option NameKind} {x : Str} {v : Value} : ∀ {P : List Str} {vs : List Value} {i : Nat} {m : Str → Option Value}, P.Nodup → P[i]? = some x → vs[i]? = some v → kindOf x ≠ some .local →
    bindC kindOf (P.zip vs) m x = some v
  | [], _, _, _, _, h, _, _ => by simp at h
  | _ :: _, [], _, _, _, _, h, _ => by simp at h
  | p :: P, w :: vs, 0, m, nd, h1, h2, hk => by
    simp at h1 h2; subst h1; subst h2
    show bindC kindOf ((p, w) :: P.zip vs) m p = _
    unfold bindC
    rw [bindC_out fun v hv => (List.nodup_cons.mp nd).1 (List.of_mem_zip hv).1, if_neg hk]
    simp
  | p :: P, w :: vs, i + 1, m, nd, h1, h2, hk => by
    show bindC kindOf ((p, w) :: P.zip vs) m x = _
    unfold bindC
    exact bindC_get (i := i) (List.nodup_cons.mp nd).2 (by simpa using h1) (by simpa using h2) hk

/-- the names' values at the entry -/
noncomputable def start (N : List Str) (vs : List V) : St := vs.map some ++ List.replicate (N.length - vs.length) none

/-- the context of a def's body, at its entry; an exception leaves the frame, then lies as CX says -/
noncomputable def cxOf (CX : CXT) (P : Program) (w : World) (K : PySem.W.Frag) (mg : Str → Option Value) (base : Heap) (N : List Str) (qual : Str) (scope : Scope) (f : Addr) (cd : Value) (A : Around) (outer : List Env) (s : Shared) (H : Hp) (E : XK) : Cx where
  prog := P
  w := w
  K := K
  mg := mg
  base := base
  A := A.deeper (envOfC qual scope s.heap.objs.size f cd)
  N := N
  s₀ := s
  H₀ := H
  env := envOfC qual scope s.heap.objs.size f cd
  outer := outer
  stack := envOfC qual scope s.heap.objs.size f cd :: outer
  ex := []
  calm := true
  fn := fun _ => true
  pn := []
  xe := fun e s' => wpAny (model P w) (A.deeper (envOfC qual scope s.heap.objs.size f cd)) (leaving (envOfC qual scope s.heap.objs.size f cd) e) (fun _ s'' => CX outer H s E e s'') (fun e' s'' => CX outer H s E e' s'') s'

theorem cell_has {sc : Scope} {n : Nat} {x : Str} (h : sc.names.lookup x = some .cell) : ∃ c, (cellsFrom n sc.names []).lookup x = some c := by
  have q := PySem.W.cellsFrom_some sc.names n [] (.inl h)
  exact Option.isSome_iff_exists.mp q

theorem inv_start {CX : CXT} {P : Program} {w : World} {K : PySem.W.Frag} {mg : Str → Option Value} {base : Heap} {N ps : List Str} {qual : Str} {scope : Scope} {f : Addr} {cd : Value} {A : Around} {outer : List Env} {s s1 : Shared} {H : Hp} {E : XK} {us : List Value} {vs : List V}
    (S : FnScope N ps scope) (hd : A.handled = none) (e0 : Env0 P w K mg base A outer s H) (hl : vs.length = ps.length) (r : Vals vs us)
    (x : InCallC s s.heap.objs.size (bindL (envOfC qual scope s.heap.objs.size f cd).kindOf (ps.zip us) fun _ => none) (cellsFrom (s.heap.objs.size + 1) scope.names []) (bindC (envOfC qual scope s.heap.objs.size f cd).kindOf (ps.zip us) fun _ => none) s1) :
    Inv (cxOf CX P w K mg base N qual scope f cd A outer s H E) [] (start N vs) H s1 := by
  have hpl : ps.length ≤ N.length := by have := congrArg List.length S.pre; rw [List.length_take] at this; omega
  obtain ⟨h1, tk, rfl, hk⟩ := x.done
  have noA : ∀ b : Addr, b ∉ (cxOf CX P w K mg base N qual scope f cd A outer s H E).ex := fun b z => absurd (show b ∈ ([] : List Addr) from z) (by simp)
  refine ⟨⟨e0.mod, S.kind, rfl, rfl, Nat.le_refl _, fun y z c h1 h2 => ?_, fun y hy => ?_, fun y c _ h => ?_, fun _ => hd, Around.frames_deeper e0.frames, .inr ⟨rfl, rfl⟩, fun b z => absurd z (noA b), e0.bs, e0.bsz, fun b _ _ => noA b, fun b z => absurd z (noA b), e0.funs, e0.frf⟩,
    rfl, e0.bare, Un.kept hk, ⟨_, x.toInCall.ns, fun i y v h1 h2 h3 => ?_⟩, fun y c h => ⟨_, x.cell y c h⟩, e0.hok.fresh (Nat.le_refl _), fun y c h => ?_, fun p hp => absurd (show p ∈ ([] : List (Addr × Obj)) from hp) (by simp), e0.hok.kept hk, ?_⟩
  · exact name_of_addr x.apart (PySem.mem_of_lookup h1) (PySem.mem_of_lookup h2)
  · have hy : scope.names.lookup y = some .cell ∨ scope.names.lookup y = some .free := hy
    rcases hy with hy | hy
    · exact cell_has hy
    · exact absurd rfl (S.nofree _ (PySem.mem_of_lookup hy))
  · exact Nat.le_of_lt (x.above y c (PySem.mem_of_lookup h))
  · have hi : i < vs.length := by
      unfold start at h2
      by_cases hi : i < vs.length
      · exact hi
      · rw [List.getElem?_append_right (by simpa using hi)] at h2
        rw [List.getElem?_replicate] at h2
        split at h2 <;> cases h2
    have ha : vs[i]? = some v := by
      unfold start at h2
      rw [List.getElem?_append_left (by simpa using hi), List.getElem?_map] at h2
      cases e : vs[i]? with
      | none => rw [e] at h2; cases h2
      | some a => rw [e] at h2; cases h2; rfl
    obtain ⟨u, hu, rv⟩ := r.get ha
    have hp : ps[i]? = some y := by
      rw [← S.pre, List.getElem?_take_of_lt (by omega)]; exact h1
    have ndP : ps.Nodup := by rw [← S.pre]; exact S.nd.sublist (List.take_sublist _ _)
    refine ⟨u, rv, ?_⟩
    rcases S.par y (List.mem_of_getElem? hp) with k | k
    · exact .inl ⟨k, bindL_get ndP hp hu k⟩
    · obtain ⟨c, e⟩ := cell_has (n := s.heap.objs.size + 1) k
      refine .inr ⟨.inl k, c, e, ?_⟩
      have q := x.cell y c e
      rw [bindC_get ndP hp hu (by show scope.names.lookup y ≠ _; rw [k]; decide)] at q
      exact q
  · exact e0.hok.fresh (Nat.le_of_lt (x.above y c (PySem.mem_of_lookup h)))
  · unfold start
    show _ = N.length
    rw [List.length_append, List.length_map, List.length_replicate]
    omega

/-- THE RULE: a def (or a method) of the text, by its body. The body's reading t is chosen for each entry; it is run at the parameters' values -/
theorem fn_of {CX : CXT} {P : Program} {w : World} {K : PySem.W.Frag} {mg : Str → Option Value} {base : Heap} {k : Nat} {f : Addr} {name qual : Str} {params : Arguments} {body : List Stmt} {scope : Scope} {dV kV doc pm cdv ct oc : Value} {an od : Option Addr}
    {osl : Array (Option Value)} {N ps : List Str} {sp : Sp} (lk : K.lookup f = some ⟨oc, od, .func (PySem.W.fnOf name qual params body scope dV kV doc pm an cdv ct), osl⟩) (hcd : PySem.W.codeIn K cdv qual = true) (S : FnScope N ps scope)
    (len : ∀ vs H Q E, sp vs H Q E → vs.length = ps.length)
    (hbody : ∀ (A : Around) (outer : List Env) (s : Shared) (H : Hp) (vs : List V) (Q : VK) (E : XK), Room k (A.deeper (envOfC qual scope s.heap.objs.size f cdv)) → sp vs H Q E →
      ∃ t, PSs (cxOf CX P w K mg base N qual scope f cdv A outer s H E) body t ∧ t { nx := fun _ H' => Q .non H', rt := Q } (start N vs) H) :
    FnOk P w K mg base CX (k + 1) f (PySem.W.fnOf name qual params body scope dV kV doc pm an cdv ct) ps sp := by
  refine ⟨len, fun A outer s H args us vs Q E hr e0 hb r hsp => ?_⟩
  have hl := len _ _ _ _ hsp
  have KX : K.In s.heap := e0.mod.kin.keeps fun b o e => (e0.bs b o e).1
  have lim : s.heap.NoLimit := e0.mod.nolimit.keeps fun b o e => (e0.bs b o e).1
  have hkind : ∀ y ∈ ps.zip us, scope.names.lookup y.1 = some .local ∨ (scope.names.lookup y.1 = some .cell ∧ ((cellsFrom (s.heap.objs.size + 1) scope.names []).lookup y.1).isSome = true) := fun ⟨n, v⟩ hy => by
    rcases S.par n (List.of_mem_zip hy).1 with q | q
    · exact .inl q
    · exact .inr ⟨q, PySem.W.cellsFrom_some _ _ _ (.inl q)⟩
  refine codeAny_call_function hr.depth (KX _ _ lk) rfl S.co S.gen rfl (PySem.W.codeRec_of KX hcd) (hb _ _ _ _ ?_)
  refine wpAny_newFunctionEnv_cells S.kind hkind fun env he s1 x => ?_
  subst he
  refine ⟨lim.keeps x.toInCall.keep, codeAny_func ?_⟩
  obtain ⟨t, ht, hq⟩ := hbody A outer s H vs Q E (hr.deeper _) hsp
  have I : Inv (cxOf CX P w K mg base N qual scope f cdv A outer s H E) [] (start N vs) H s1 := inv_start S hr.hd e0 hl r x
  refine wpAny_mono (ht [] s1 (start N vs) H _ I hq) (fun fl s' hs => ?_) fun e s' hs => hs
  have fin : ∀ {σ' : St} {H' : Hp} {v : V} {u : Value}, Inv (cxOf CX P w K mg base N qual scope f cdv A outer s H E) [] σ' H' s' → RelV v u → Q v H' → CE outer P w H s Q u s' :=
    fun {σ' H' v u} J rv q => ⟨v, H', J.os, J.bare, J.base, J.hok, rv, q⟩
  cases fl with
  | ret u =>
    obtain ⟨v, σ', H', J, rv, q⟩ := hs
    exact fin J rv q
  | next =>
    obtain ⟨σ', H', J, q⟩ := hs
    exact fin (v := V.non) (u := Value.none) J rfl q
  | brk =>
    obtain ⟨_, _, _, q⟩ := hs
    exact False.elim q
  | cont =>
    obtain ⟨_, _, _, q⟩ := hs
    exact False.elim q
end L2

namespace L2
open PySem PySem.Spec PyProof.Rows
section
variable {X : Cx} {x : Str} {p pos : Pos} {e : Expr} {es : List Expr} {t : TA} {id T : String} {r : List V → Hp → VK → Prop}

noncomputable def tCB (r : List V → Hp → VK → Prop) (t : TA) : TE := fun σ H Q => t σ H fun vs H1 => r vs H1 Q
/-- f(e, ..), f a built-in function -/
theorem pe_callB (hc : CallR X (.builtin id) r) (hg : Gl X x) (hm : X.mg x = none) (hv : bootBuiltins x = some (.builtin id)) (ha : PA X (e :: es) t) (hn : x ≠ "__name__" := by decide) (hdb : (x == ("__debug__" : Str)) = false := by decide)
    (he : starEach (e :: es) X.env = (false, eval e X.env) :: starEach es X.env := by rfl) (hpl : (backTo pos (starEach es X.env)).any (·.1) = false := by rfl) : PE X (.Call (.Name x p) (e :: es) [] pos) (tCB r t) := by
  intro pins s σ H Q I h
  refine wpAny_Call_Name_kw (ld_blt I hg hm hv ?_ hn hdb)
  exact PyProof.Rows.callWith_builtin1 (thn (ha pos pins s σ H _ I h) fun us s1 ⟨vs, H1, I1, r1, q1⟩ => hc pins s1 σ H1 vs us Q I1 r1 q1) he hpl
/-- T(e, ..), T a built-in type -/
theorem pe_callTy (hc : CallR X (.type T) r) (hg : Gl X x) (hm : X.mg x = none) (hv : bootBuiltins x = some (.type T)) (ha : PA X (e :: es) t) (hn : x ≠ "__name__" := by decide) (hdb : (x == ("__debug__" : Str)) = false := by decide)
    (he : starEach (e :: es) X.env = (false, eval e X.env) :: starEach es X.env := by rfl) (hpl : (backTo pos (starEach es X.env)).any (·.1) = false := by rfl) : PE X (.Call (.Name x p) (e :: es) [] pos) (tCB r t) := by
  intro pins s σ H Q I h
  refine wpAny_Call_Name_kw (ld_blt I hg hm hv ?_ hn hdb)
  exact PyProof.Rows.callWith_type1 (thn (ha pos pins s σ H _ I h) fun us s1 ⟨vs, H1, I1, r1, q1⟩ => hc pins s1 σ H1 vs us Q I1 r1 q1) he hpl
end
end L2

namespace HT
open PySem PyProof.Rows

section
open PySem.SeqAt
open PySem.AutoSeq1 (wpAny_loadPart')
open PySem.MeetsSeq PySem.MeetsSeq2 PySem.MeetsSeq3

end

section
variable {prog : Program} {w : World} {A : Around} {E : Value → Shared → Prop} {s : Shared}

/-! ### t[a:b], not the whole -/
end
end HT

namespace L2
open PySem PySem.Spec PyProof.Rows

/-! ### the parts of a slice -/
noncomputable abbrev TO := St → Hp → (Option Int → Hp → Prop) → Prop
/-- a slice's part (left out, or an int) -/
noncomputable def PO (X : Cx) (e : Option Expr) (t : TO) : Prop :=
  ∀ (pins : List (Addr × Obj)) (s : Shared) (σ : St) (H : Hp) (Q : Option Int → Hp → Prop), Inv X pins σ H s → t σ H Q →
    wpAny (model X.prog X.w) X.A (evalPart e X.env) (fun u s' => ∃ o H', Inv X pins σ H' s' ∧ IsPart u o ∧ Q o H') X.xe s
noncomputable def tPart (t : TE) : TO := fun σ H Q => t σ H fun x H1 => ∃ i, x = .int i ∧ Q (some i) H1

section
variable {X : Cx} {e : Expr} {te : TE} {lo hi : Option Expr} {tl th : TO} {pos p2 : Pos}

theorem po_some (h : PE X e te) : PO X (some e) (tPart te) := by
  intro pins s σ H Q I hw
  rw [evalPart_some]
  refine thn (h pins s σ H _ I hw) fun u s1 ⟨x, H1, I1, r1, q1⟩ => ?_
  obtain ⟨i, rfl, q⟩ := q1
  obtain ⟨t, rfl⟩ := r1
  exact ⟨some i, H1, I1, .int i t, q⟩

/-- what a slice of a value is, by values: the slice object stands at sl -/
noncomputable def SlR (X : Cx) (r : V → Option Int → Option Int → Hp → VK → Prop) : Prop :=
  ∀ (pins : List (Addr × Obj)) (s : Shared) (σ : St) (H : Hp) (x : V) (v vl vu : Value) (lo hi : Option Int) (sl : Addr) (Q : VK), Inv X pins σ H s → RelV x v → s.heap.IsSliceOf sl vl vu .none → IsPart vl lo → IsPart vu hi → r x lo hi H Q →
    ∃ T id, typeLookup (.type T) "__getitem__" = pure (some (.builtin id)) ∧ s.TypeIs v T ∧ wpAny (model X.prog X.w) X.A (getItem v (.ref sl)) (EP X pins σ Q) X.xe s
noncomputable def tSl (r : V → Option Int → Option Int → Hp → VK → Prop) (te : TE) (tl th : TO) : TE := fun σ H Q => te σ H fun x H1 => tl σ H1 fun l H2 => th σ H2 fun u H3 => r x l u H3 Q
/-- a[lo:hi], any a -/
theorem pe_slice {r : V → Option Int → Option Int → Hp → VK → Prop} (hr : SlR X r) (he : PE X e te) (hl : PO X lo tl) (hu : PO X hi th) : PE X (.Subscript e (.Slice lo hi none p2) pos) (tSl r te tl th) := by
  intro pins s σ H Q I h
  refine Subscript_ (thn (he pins s σ H _ I h) fun v s1 ⟨x, H1, I1, r1, q1⟩ => ?_)
  refine wpAny_Slice (thn (hl pins s1 σ H1 _ I1 q1) fun vl s2 ⟨l, H2, I2, pl, q2⟩ => thn (hu pins s2 σ H2 _ I2 q2) fun vu s3 ⟨u, H3, I3, pu, q3⟩ => ?_)
  rw [evalPart_none]
  refine wpAny_pure ?_
  have I4 : Inv X pins σ H3 { s3 with heap := s3.heap.push { cls := .type "slice", data := .fields #[vl, vu, .none] } } := I3.kept (t' := s3.toks) fun b ob q => Heap.get?_push_of_some _ q
  obtain ⟨T, id, hT, ht, hg⟩ := hr pins { s3 with heap := s3.heap.push { cls := .type "slice", data := .fields #[vl, vu, .none] } } σ H3 x v vl vu l u s3.heap.objs.size Q I4 r1 (Heap.IsSliceOf.new ..) pl pu q3
  show wpAny (model X.prog X.w) X.A (subscriptTail e (.Slice lo hi none p2) v (.ref s3.heap.objs.size)) (EP X pins σ Q) X.xe { s3 with heap := s3.heap.push { cls := .type "slice", data := .fields #[vl, vu, .none] } }
  exact tail_any (ops := [.ref s3.heap.objs.size, v]) ht hT hg (by with_unfolding_all rfl)

/-! ### t < u, t + u -/
end
end L2

namespace L2
open PySem PySem.Spec PyProof.Rows

/-! ### places -/
/-- the place that an index of any sign means -/
noncomputable def ixN (n : Nat) (i : Int) : Option Nat := if 0 ≤ i then (if i < n then some i.toNat else none) else if -(n : Int) ≤ i then some (i + n).toNat else none
noncomputable def atI {α : Type} (xs : List α) (i : Int) : Option α := (ixN xs.length i).bind fun j => xs[j]?
theorem ixN_seq {n : Nat} {i : Int} {j : Nat} (h : ixN n i = some j) : seqIndex? i n = some j ∧ j < n ∧ -(n : Int) ≤ i ∧ i < n := by
  unfold ixN at h
  by_cases h0 : 0 ≤ i
  · rw [if_pos h0] at h
    by_cases h1 : i < n
    · rw [if_pos h1] at h
      have e : i.toNat = j := Option.some.inj h
      exact ⟨by rw [seqIndex_of h0 h1, e], by omega, by omega, h1⟩
    · rw [if_neg h1] at h; cases h
  · rw [if_neg h0] at h
    by_cases h1 : -(n : Int) ≤ i
    · rw [if_pos h1] at h
      have e : (i + n).toNat = j := Option.some.inj h
      exact ⟨by rw [seqIndex_neg (by omega) h1, e], by omega, h1, by omega⟩
    · rw [if_neg h1] at h; cases h
theorem atI_get {α : Type} {xs : List α} {i : Int} {v : α} (h : atI xs i = some v) : ∃ j, seqIndex? i xs.length = some j ∧ xs[j]? = some v ∧ j < xs.length ∧ -(xs.length : Int) ≤ i ∧ i < xs.length := by
  unfold atI at h
  cases e : ixN xs.length i with
  | none => rw [e] at h; cases h
  | some j =>
    rw [e] at h
    obtain ⟨h1, h2, h3, h4⟩ := ixN_seq e
    exact ⟨j, h1, h, h2, h3, h4⟩
theorem atI_nat {α : Type} {xs : List α} {j : Nat} {v : α} (h : xs[j]? = some v) : atI xs (j : Int) = some v := by
  have hj : j < xs.length := (List.getElem?_eq_some_iff.mp h).1
  have e : ixN xs.length (j : Int) = some j := by
    unfold ixN
    rw [if_pos (by omega), if_pos (by omega)]; simp
  unfold atI; rw [e]; exact h
theorem atI_last {α : Type} (xs : List α) (v : α) : atI (xs ++ [v]) (-1) = some v := by
  have hl : (xs ++ [v]).length = xs.length + 1 := by simp
  have e : ixN (xs ++ [v]).length (-1) = some xs.length := by
    unfold ixN
    rw [hl, if_neg (by decide), if_pos (by omega)]
    congr 1
    omega
  unfold atI
  rw [e]
  show (xs ++ [v])[xs.length]? = some v
  simp

/-! ### what may be subscripted -/
/-- what stands as an index of a plain subscript -/
noncomputable def PlainIx (b : Expr) : Prop := ∀ o i, subscripted b false o i = operate [o, i] (getItem o i)
/-- a subscript by values -/
noncomputable def IxR (X : Cx) (r : R2) : Prop :=
  ∀ (value slice : Expr) (pins : List (Addr × Obj)) (s : Shared) (σ : St) (H : Hp) (x y : V) (v u : Value) (Q : VK), Inv X pins σ H s → RelV x v → RelV y u → r x y H Q →
    subscripted slice false v u = operate [v, u] (getItem v u) → wpAny (model X.prog X.w) X.A (subscriptTail value slice v u) (EP X pins σ Q) X.xe s
/-- a call of a builtin's method by values: the receiver, the arguments -/
noncomputable def MtR (X : Cx) (id : String) (r : V → List V → Hp → VK → Prop) : Prop :=
  ∀ (pins : List (Addr × Obj)) (s : Shared) (σ : St) (H : Hp) (x : V) (xs : List V) (v : Value) (us : List Value) (Q : VK), Inv X pins σ H s → RelV x v → Vals xs us → r x xs H Q →
    wpAny (model X.prog X.w) X.A (call (.builtin id) (v :: us)) (EP X pins σ Q) X.xe s
section
variable {X : Cx} {a b : Expr} {ta tb : TE} {pos : Pos}
/-- a[b] -/
theorem pe_ix {r : R2} (hr : IxR X r) (ha : PE X a ta) (hb : PE X b tb) (hs : PlainIx b) : PE X (.Subscript a b pos) (tOp r ta tb) := by
  intro pins s σ H Q I h
  exact Subscript_ (binT ha hb I h fun v u s2 x y H2 I2 rx ry q => hr a b pins s2 σ H2 x y v u Q I2 rx ry q (hs _ _))

noncomputable def rIxL (K : PySem.W.Frag) : R2 := fun x y H Q => ∃ p xs i v, x = .ref p ∧ y = .int i ∧ SqL K H p xs ∧ atI xs i = some v ∧ Q v H
noncomputable def rIxS : R2 := fun x y H Q => ∃ z i c, x = .str z ∧ y = .int i ∧ z.length ≤ sizeLine ∧ atI z.cps.toList i = some c ∧ Q (.str ⟨#[c]⟩) H
theorem ix_list : IxR X (rIxL X.K) := by
  intro value slice pins s σ H x y v u Q I rx ry h hs
  obtain ⟨p, xs, i, z, rfl, rfl, hq, he, q⟩ := h
  cases rx
  obtain ⟨t, rfl⟩ := ry
  obtain ⟨its, r, pl, hz⟩ := I.list hq
  obtain ⟨j, h1, h2, h3, h4, h5⟩ := atI_get he
  obtain ⟨w, ew, rw'⟩ := r.get h2
  have hl := r.length
  have hn := line63
  have fin : EP X pins σ Q w s := ⟨z, H, I, rw', q⟩
  by_cases h0 : 0 ≤ i
  · have hj : i.toNat = j := by
      rw [seqIndex_of h0 h5] at h1
      exact Option.some.inj h1
    exact item_listR pl.isList h0 (by omega) (by rw [hj]; simpa using ew) fin hs
  · have hj : (i + (its.toArray.size : Int)).toNat = j := by
      rw [seqIndex_neg (by omega) h4] at h1
      rw [List.size_toArray, ← hl]
      exact Option.some.inj h1
    exact subscriptTail_builtinR (x := w) pl.isList.typeIs slot_list_getitem.lookup
      (wpAny_getItem_list_neg (Q := fun r s' => r = w ∧ EP X pins σ Q r s') pl.isList (by omega) (by rw [List.size_toArray] <;> omega) (by omega) (by rw [hj]; simpa using ew) ⟨rfl, fin⟩) hs
theorem ix_str : IxR X rIxS := by
  intro value slice pins s σ H x y v u Q I rx ry h hs
  obtain ⟨z, i, c, rfl, rfl, hz, he, q⟩ := h
  obtain ⟨t, rfl⟩ := rx
  obtain ⟨t', rfl⟩ := ry
  obtain ⟨j, h1, h2, h3, h4, h5⟩ := atI_get he
  have hl : z.cps.toList.length = z.length := by simp [Str.length]
  rw [hl] at h1 h4 h5
  have hn := line63
  exact tail_any (typeIs_str s z t) slot_str_getitem.lookup (getItem_str (c := c) (by
    have e1 : decide (i < -(2 ^ 63 : Int)) = false := decide_eq_false (by omega)
    have e2 : decide (i ≥ 2 ^ 63) = false := decide_eq_false (by omega)
    rw [e1, e2, Bool.or_false]) (by rw [h1]; simpa using h2) ⟨.str ⟨#[c]⟩, H, I.tok _, ⟨_, rfl⟩, q⟩) hs
/-! ### xs[i] = v, any sign -/
/-- the list's object behind a store -/
theorem mapSeq_set (its : List Value) (n j : Nat) (u : Value) : Obj.mapSeq (·.setIfInBounds j u) { cls := .type "list", data := .seq its.toArray n } = { cls := .type "list", data := .seq (its.set j u).toArray n } := by
  simp [Obj.mapSeq]
theorem Inv.lst {pins : List (Addr × Obj)} {σ : St} {H : Hp} {s : Shared} {p : Addr} {xs : List V} (I : Inv X pins σ H s) (h : H p = some (.lst xs)) :
    ∃ (its : List Value) (n : Nat), Vals xs its ∧ s.heap.get? p = some { cls := .type "list", data := .seq its.toArray n } ∧ xs.length ≤ sizeLine := by
  obtain ⟨z, its, n, r, e⟩ := I.hok p _ h
  exact ⟨its, n, r, e, z⟩
/-- the list at p is written by an update of its object -/
theorem Inv.lstUpd {pins : List (Addr × Obj)} {σ : St} {H : Hp} {s : Shared} {p : Addr} {xs ys : List V} {its its' : List Value} {n n' : Nat} {f : Obj → Obj} (I : Inv X pins σ H s) (h : H p = some (.lst xs))
    (ho : s.heap.get? p = some { cls := .type "list", data := .seq its.toArray n }) (hf : f { cls := .type "list", data := .seq its.toArray n } = { cls := .type "list", data := .seq its'.toArray n' }) (r : Vals ys its') (hz : ys.length ≤ sizeLine) (t : Nat) :
    Inv X pins σ (upd H p (.lst ys)) { s with heap := s.heap.update p f, toks := t } := by
  have e : (s.heap.update p f).get? p = some { cls := .type "list", data := .seq its'.toArray n' } := by
    rw [Heap.get?_update_self f ho (by rw [hf] <;> rfl), hf]
  refine I.write (x := p) (e := p) (by rw [h]; trivial) (.inl rfl) (fun b u hb q => (Heap.get?_update_other _ _ (Ne.symm hb)).trans q) ⟨_, e⟩ ?_
  exact ⟨hz, its', n', r, e⟩
noncomputable def rSetL : V → V → V → Hp → (Hp → Prop) → Prop := fun o i v H Q => ∃ p xs k j, o = .ref p ∧ i = .int k ∧ H p = some (.lst xs) ∧ ixN xs.length k = some j ∧ Q (upd H p (.lst (xs.set j v)))
theorem set_list : PSet X rSetL := by
  intro pins s σ H o i v ov iv u Q I ro ri rv h
  obtain ⟨p, xs, k, j, rfl, rfl, hp, hj, q⟩ := h
  cases ro
  obtain ⟨t, rfl⟩ := ri
  obtain ⟨its, n, r, ho, hz⟩ := I.lst hp
  obtain ⟨h1, h2, h3, h4⟩ := ixN_seq hj
  have hl := r.length
  have hn := line63
  have I' : Inv X pins σ (upd H p (.lst (xs.set j v))) { s with heap := s.heap.update p (Obj.mapSeq (·.setIfInBounds j u)) } :=
    I.lstUpd hp ho (mapSeq_set its n j u) (r.set rv j) (by rw [List.length_set]; exact hz) s.toks
  by_cases h0 : 0 ≤ k
  · have hk : k.toNat = j := by
      rw [seqIndex_of h0 h4] at h1
      exact Option.some.inj h1
    exact PySem.W.ki_setAt ho h0 (by omega) (by rw [List.size_toArray, ← hl]; exact h4) (by rw [hk]; exact ⟨_, I', q⟩)
  · have hk : (k + (its.toArray.size : Int)).toNat = j := by
      rw [seqIndex_neg (by omega) h3] at h1
      rw [List.size_toArray, ← hl]
      exact Option.some.inj h1
    exact PySem.W.ki_setBack ho (by omega) (by rw [List.size_toArray, ← hl]; exact h3) (by omega) (by rw [hk]; exact ⟨_, I', q⟩)

/-! ### slices -/
/-! ### in, not in: flat items -/
noncomputable def flatV : V → Bool
  | .non => true
  | .bl _ => true
  | .int _ => true
  | .str _ => true
  | _ => false
/-- == of flat values -/
noncomputable def eqV : V → V → Bool
  | .non, .non => true
  | .bl a, .bl b => a == b
  | .bl a, .int b => (if a then 1 else 0) == b
  | .int a, .bl b => a == (if b then 1 else 0)
  | .int a, .int b => a == b
  | .str a, .str b => a == b
  | _, _ => false
theorem eqAt_V {A : Around} {s : Shared} {y x : V} {u v : Value} (ry : RelV y u) (rx : RelV x v) (fy : flatV y = true) (fx : flatV x = true) : SeqAt.EqAt A s u v (eqV y x) := by
  cases y with
  | non =>
    cases ry
    cases x with
    | non => cases rx; exact SeqAt.EqAt.same _
    | bl b => cases rx; exact SeqAt.EqAt.none_bool b
    | int b => obtain ⟨t, rfl⟩ := rx; exact SeqAt.EqAt.none_int b t
    | str b => obtain ⟨t, rfl⟩ := rx; exact SeqAt.EqAt.none_str b t
    | _ => exact absurd (show false = true from fx) Bool.false_ne_true
  | bl a =>
    cases ry
    cases x with
    | non => cases rx; exact SeqAt.EqAt.bool_none a
    | bl b => cases rx; exact SeqAt.EqAt.bool_bool a b
    | int b => obtain ⟨t, rfl⟩ := rx; exact SeqAt.EqAt.bool_int a b t
    | str b => obtain ⟨t, rfl⟩ := rx; exact SeqAt.EqAt.bool_str a b t
    | _ => exact absurd (show false = true from fx) Bool.false_ne_true
  | int a =>
    obtain ⟨t', rfl⟩ := ry
    cases x with
    | non => cases rx; exact SeqAt.EqAt.int_none a t'
    | bl b => cases rx; exact SeqAt.EqAt.int_bool a t' b
    | int b => obtain ⟨t, rfl⟩ := rx; exact SeqAt.EqAt.int_int a t' b t
    | str b => obtain ⟨t, rfl⟩ := rx; exact SeqAt.EqAt.int_str a t' b t
    | _ => exact absurd (show false = true from fx) Bool.false_ne_true
  | str a =>
    obtain ⟨t', rfl⟩ := ry
    cases x with
    | non => cases rx; exact SeqAt.EqAt.str_none a t'
    | bl b => cases rx; exact SeqAt.EqAt.str_bool a t' b
    | int b => obtain ⟨t, rfl⟩ := rx; exact SeqAt.EqAt.str_int a t' b t
    | str b => obtain ⟨t, rfl⟩ := rx; exact SeqAt.EqAt.str_str a t' b t
    | _ => exact absurd (show false = true from fx) Bool.false_ne_true
  | _ => exact absurd (show false = true from fy) Bool.false_ne_true
/-- the items' answers, read off the values (a value's own answer does not lean on its token) -/
noncomputable def eqU (x : V) (u : Value) : Bool := match u with
  | .none => eqV .non x
  | .bool b => eqV (.bl b) x
  | .int i _ => eqV (.int i) x
  | .str z _ => eqV (.str z) x
  | _ => false
theorem eqU_of {x y : V} {u : Value} (r : RelV y u) (f : flatV y = true) : eqU x u = eqV y x := by
  cases y with
  | non => cases r; rfl
  | bl b => cases r; rfl
  | int i => obtain ⟨t, rfl⟩ := r; rfl
  | str z => obtain ⟨t, rfl⟩ := r; rfl
  | _ => exact absurd (show false = true from f) Bool.false_ne_true
theorem any_eqU {x : V} : ∀ {xs : List V} {us : List Value}, Vals xs us → xs.all flatV = true → us.any (eqU x) = xs.any fun y => eqV y x
  | _, _, .nil, _ => rfl
  | y :: xs, u :: us, .cons r t, f => by
    rw [List.all_cons, Bool.and_eq_true] at f
    rw [List.any_cons, List.any_cons, eqU_of r f.1, any_eqU t f.2]
theorem mem_eqAt {A : Around} {s : Shared} {x : V} {v : Value} (rx : RelV x v) (fx : flatV x = true) : ∀ {xs : List V} {us : List Value}, Vals xs us → xs.all flatV = true → ∀ u ∈ us, SeqAt.EqAt A s u v (eqU x u)
  | _, _, .nil, _ => fun u hu => by cases hu
  | y :: xs, u :: us, .cons r t, f => fun u' hu => by
    rw [List.all_cons, Bool.and_eq_true] at f
    rcases List.mem_cons.mp hu with rfl | hu
    · rw [eqU_of r f.1]; exact eqAt_V r rx f.1 fx
    · exact mem_eqAt rx fx t f.2 u' hu
noncomputable def inV (x : V) (xs : List V) : Bool := xs.any fun y => eqV y x
/-- x in a list or tuple of flat items -/
noncomputable def rIn (K : PySem.W.Frag) (neg : Bool) : R2 := fun x y H Q => ∃ p xs, y = .ref p ∧ (SqL K H p xs ∨ SqT K H p xs) ∧ flatV x = true ∧ xs.all flatV = true ∧ Q (.bl (if neg then !inV x xs else inV x xs)) H
theorem op_notIn_seq : OpR X (compareOp .NotIn) (rIn X.K true) := by
  intro pins s σ H x y v u Q I rx ry h
  obtain ⟨p, xs, rfl, hq, fx, fs, q⟩ := h
  cases ry
  rcases hq with hq | hq
  · obtain ⟨its, r, pl, hz⟩ := I.list hq
    refine SeqAt.notIn_listAt (eqU x) pl.isList (fun w hw => mem_eqAt rx fx r fs w (by simpa using hw)) ⟨.bl _, H, I, rfl, ?_⟩
    rw [show its.toArray.any (eqU x) = its.any (eqU x) by simp, any_eqU r fs]
    exact q
  · obtain ⟨its, r, pl, hz⟩ := I.tuple hq
    refine SeqAt.notIn_tupleAt (eqU x) pl (fun w hw => mem_eqAt rx fx r fs w (by simpa using hw)) ⟨.bl _, H, I, rfl, ?_⟩
    rw [show its.toArray.any (eqU x) = its.any (eqU x) by simp, any_eqU r fs]
    exact q
/-! ### len, list(x), tuple(x) of any list or tuple that is read -/
theorem call_len_seq : CallR X (.builtin "len") (fun xs H Q => ∃ p ys, xs = [.ref p] ∧ (SqL X.K H p ys ∨ SqT X.K H p ys) ∧ Q (.int ys.length) H) := by
  intro pins s σ H xs us Q I r h
  obtain ⟨p, ys, rfl, hq, q⟩ := h
  obtain ⟨u, rfl, rx⟩ := vals1 r
  cases rx
  have hn := line63
  rcases hq with hq | hq
  · obtain ⟨its, r', pl, hz⟩ := I.list hq
    have hlen := r'.length
    exact Calls.call_len_list pl.isList (by simp only [List.size_toArray] <;> omega) ⟨.int ys.length, H, I.tok _, ⟨s.toks + 1, by rw [List.size_toArray, hlen]⟩, q⟩
  · obtain ⟨its, r', pl, hz⟩ := I.tuple hq
    have hlen := r'.length
    exact len_tuple pl (by simp only [List.size_toArray] <;> omega) ⟨.int ys.length, H, I.tok _, ⟨s.toks + 1, by rw [List.size_toArray, hlen]⟩, q⟩
theorem call_list_of : CallR X (.type "list") (fun xs H Q => ∃ p ys, xs = [.ref p] ∧ (SqL X.K H p ys ∨ SqT X.K H p ys) ∧ ∀ l, H l = none → Q (.ref l) (upd H l (.lst ys))) := by
  intro pins s σ H xs us Q I r h
  obtain ⟨p, ys, rfl, hq, q⟩ := h
  obtain ⟨u, rfl, rx⟩ := vals1 r
  cases rx
  have fin : ∀ (its : List Value), Vals ys its → ys.length ≤ sizeLine → ∀ (h' : Heap) (c' : Nat), (∀ b o', s.heap.get? b = some o' → h'.get? b = some o') →
      h'.get? s.heap.objs.size = some { cls := .type "list", dict := none, data := .seq its.toArray c', slots := #[] } → EP X pins σ Q (.ref s.heap.objs.size) { s with heap := h' } := fun its r' hz h' c' kp e =>
    ⟨.ref s.heap.objs.size, _, I.laid (t' := s.toks) kp (Nat.le_refl _) (show ObjOk X.prog X.w _ h' _ (.lst ys) from ⟨hz, its, c', r', e⟩), rfl, q _ (I.hok.fresh (Nat.le_refl _))⟩
  rcases hq with hq | hq
  · obtain ⟨its, r', pl, hz⟩ := I.list hq
    have hlen := r'.length
    obtain ⟨o, ho, hc, n, hd⟩ := pl.isList
    exact call_list_seq p (.inl rfl) ho hc hd (fun h' c' kp e => fin its r' hz h' c' kp e) (by simp only [List.size_toArray] <;> omega)
  · obtain ⟨its, r', pl, hz⟩ := I.tuple hq
    have hlen := r'.length
    obtain ⟨o, ho, hc, n, hd⟩ := pl
    exact call_list_seq p (.inr rfl) ho hc hd (fun h' c' kp e => fin its r' hz h' c' kp e) (by simp only [List.size_toArray] <;> omega)
/-! ### the call of a builtin's method: o.m(..) -/
/-- the value is of that builtin type -/
noncomputable def tyV (K : PySem.W.Frag) (T : String) (x : V) (H : Hp) : Prop := match x with
  | .str _ => T = "str"
  | .int _ => T = "int"
  | .ref p => (T = "list" ∧ ∃ xs, SqL K H p xs) ∨ (T = "tuple" ∧ ∃ o, K.lookup p = some o ∧ o.cls = .type "tuple" ∧ o.dict = none) ∨
      (T = "dict" ∧ ((∃ kvs, H p = some (.dK kvs)) ∨ ∃ kvs, H p = some (.dT kvs))) ∨ (T = "set" ∧ ∃ S n, H p = some (.set S n))
  | _ => False
theorem tyV_is {pins : List (Addr × Obj)} {σ : St} {H : Hp} {s : Shared} {T : String} {x : V} {v : Value} (I : Inv X pins σ H s) (r : RelV x v) (ty : tyV X.K T x H) :
    s.TypeIs v T ∧ ∀ a, v = .ref a → ∃ ob, s.heap.get? a = some ob ∧ ob.dict = none := by
  cases x with
  | str z =>
    obtain ⟨t, rfl⟩ := r
    cases (show T = "str" from ty)
    exact ⟨typeIs_str s z t, fun _ e => nomatch e⟩
  | int i =>
    obtain ⟨t, rfl⟩ := r
    cases (show T = "int" from ty)
    exact ⟨typeIs_int s i t, fun _ e => nomatch e⟩
  | ref p =>
    cases r
    rcases ty with ⟨rfl, xs, hq⟩ | ⟨rfl, o, hk, hc, hd⟩ | ⟨rfl, hk⟩ | ⟨rfl, S, n, hk⟩
    · obtain ⟨its, _, pl, _⟩ := I.list hq
      refine ⟨pl.isList.typeIs, fun a e => ?_⟩
      cases e
      obtain ⟨o, n, e, c, hd, _⟩ := pl
      exact ⟨o, e, hd⟩
    · refine ⟨⟨o, I.kIn p o hk, hc⟩, fun a e => ?_⟩
      cases e
      exact ⟨o, I.kIn _ o hk, hd⟩
    · have z : ∃ o, s.heap.get? p = some o ∧ o.ExactDict := by
        rcases hk with ⟨kvs, hk⟩ | ⟨kvs, hk⟩
        · obtain ⟨_, _, _, _, o, _, _, e, ex, _⟩ := I.hok p _ hk
          exact ⟨o, e, ex⟩
        · obtain ⟨_, _, _, _, o, _, _, e, ex, _⟩ := I.hok p _ hk
          exact ⟨o, e, ex⟩
      obtain ⟨o, e, ex⟩ := z
      refine ⟨⟨o, e, ex.1⟩, fun a e2 => ?_⟩
      cases e2
      exact ⟨o, e, ex.2.1⟩
    · obtain ⟨o, _, _, _, e, ex, _⟩ := I.hok p _ hk
      refine ⟨⟨o, e, ex.1⟩, fun a e2 => ?_⟩
      cases e2
      exact ⟨o, e, ex.2.1⟩
  | _ => exact False.elim ty
noncomputable def tBM0 (K : PySem.W.Frag) (T : String) (r : V → List V → Hp → VK → Prop) (to : TE) : TE := fun σ H Q => to σ H fun x H1 => tyV K T x H1 ∧ r x [] H1 Q
noncomputable def tBM (K : PySem.W.Frag) (T : String) (r : V → List V → Hp → VK → Prop) (to : TE) (t : TA) : TE := fun σ H Q => to σ H fun x H1 => tyV K T x H1 ∧ t σ H1 fun xs H2 => r x xs H2 Q
variable {o e : Expr} {es : List Expr} {to : TE} {t : TA} {name : Str} {apos cpos : Pos} {T id : String} {r : V → List V → Hp → VK → Prop}
theorem pe_bm0 (pa : PlainAttrs T) (slot : Slot T name id) (hty : typeOf (.builtin id) = pure (.type "method_descriptor")) (hm : MtR X id r) (ho : PE X o to)
    (hbase : attributeBase o name X.env (eval o X.env) = eval o X.env := by rfl) (hline : (apos.endLine == cpos.line) = true := by rfl) : PE X (.Call (.Attribute o name apos) [] [] cpos) (tBM0 X.K T r to) := by
  intro pins s σ H Q I h
  refine wpAny_Call_method0_late hbase hline (thn (ho pins s σ H _ I h) fun v s1 ⟨x, H1, I1, r1, ty, q1⟩ => ?_)
  obtain ⟨h1, h2⟩ := tyV_is I1 r1 ty
  exact ⟨T, id, pa, slot, hty, h1, h2, Calls.callWith_builtin rfl (PySem.evalArgs_none (hm pins s1 σ H1 x [] v [] Q I1 r1 .nil q1))⟩
theorem pe_bm (pa : PlainAttrs T) (slot : Slot T name id) (hty : typeOf (.builtin id) = pure (.type "method_descriptor")) (hm : MtR X id r) (ho : PE X o to) (ha : PA X (e :: es) t)
    (hbase : attributeBase o name X.env (eval o X.env) = eval o X.env := by rfl)
    (hfew : ((backTo cpos (starEach (e :: es) X.env)).all (fun x => !x.1) && (backToKw cpos (keywordEach [] X.env)).all (fun x => x.1.isSome)
      && decide ((e :: es).length + ([] : List Keyword).length + (if ([] : List Keyword).isEmpty then 0 else 1) < 30)) = true := by rfl)
    (hline : (apos.endLine == cpos.line) = true := by rfl) (hs : starEach (e :: es) X.env = (false, eval e X.env) :: starEach es X.env := by rfl) (hplain : (backTo cpos (starEach es X.env)).any (·.1) = false := by rfl) :
    PE X (.Call (.Attribute o name apos) (e :: es) [] cpos) (tBM X.K T r to t) := by
  intro pins s σ H Q I h
  refine wpAny_Call_method_late hbase hfew hline rfl (thn (ho pins s σ H _ I h) fun v s1 ⟨x, H1, I1, r1, ty, q1⟩ => ?_)
  obtain ⟨h1, h2⟩ := tyV_is I1 r1 ty
  refine ⟨T, id, pa, slot, hty, h1, h2, ?_⟩
  have hA := ha cpos pins s1 σ H1 _ I1 q1
  rw [hs] at hA ⊢
  refine Calls.callWith_builtin (by show (false || (backTo cpos (starEach es X.env)).any (·.1)) = false; rw [hplain] <;> rfl) (Calls.evalArgs_plain ?_)
  exact thn hA fun us s2 ⟨vs, H2, I2, r2, q2⟩ => hm pins s2 σ H2 x vs v us Q I2 r1 r2 q2
/- xs.append(e), list.index on a module's tuple .. are MtR facts of 06m -/
end
end L2

namespace L2
open PySem PySem.Spec PyProof.Rows

noncomputable def MtM (X : Cx) (id : String) (r : V → List V → Hp → VK → Prop) : Prop :=
  ∀ (pins : List (Addr × Obj)) (s : Shared) (σ : St) (H : Hp) (x : V) (xs : List V) (v : Value) (us : List Value) (Q : VK), Inv X pins σ H s → RelV x v → Vals xs us → r x xs H Q →
    wpAny (model X.prog X.w) X.A (call (.builtin id) (v :: us)) (EP X pins σ Q) X.xe s

/-! ### lists of values -/
theorem Vals.one : ∀ {x : V} {us : List Value}, Vals [x] us → ∃ u, us = [u] ∧ RelV x u
  | _, _, .cons r .nil => ⟨_, rfl, r⟩
section
variable {X : Cx} {pins : List (Addr × Obj)} {σ : St} {H : Hp} {s : Shared} {l b : Addr} {xs ys zs : List V}

/-! ### the two steps: a tracked list is rewritten, a new list is laid -/
theorem Inv.lset {its its' : List Value} {n : Nat} {f : Array Value → Array Value} {t' : Nat} (I : Inv X pins σ H s) (hH : H l = some (.lst xs))
    (e : s.heap.get? l = some { cls := .type "list", data := .seq its.toArray n }) (hf : f its.toArray = its'.toArray) (hv : Vals ys its') (hz : ys.length ≤ sizeLine) :
    Inv X pins σ (upd H l (.lst ys)) { s with heap := s.heap.update l (Obj.mapSeq f), toks := t' } := by
  have q := PySem.IsL.update e f
  rw [hf] at q
  refine I.write (x := l) (e := l) (by rw [hH]; exact trivial) (.inl rfl) (fun b' u hb hu => (Heap.get?_update_other s.heap (Obj.mapSeq f) (Ne.symm hb)).trans hu) ⟨_, q⟩ ?_
  exact ⟨hz, its', _, hv, q⟩
theorem Inv.lnew {its : List Value} {t' : Nat} (I : Inv X pins σ H s) (hv : Vals ys its) (hz : ys.length ≤ sizeLine) :
    Inv X pins σ (upd H s.heap.objs.size (.lst ys)) { s with heap := s.heap.push { cls := .type "list", data := .seq its.toArray }, toks := t' } :=
  I.laid (fun _ _ q => Heap.get?_push_of_some _ q) (Nat.le_refl _) ⟨hz, its, 0, hv, Heap.get?_push_size _ rfl⟩
theorem Inv.fresh (I : Inv X pins σ H s) : H s.heap.objs.size = none := I.hok.fresh (Nat.le_refl _)
theorem Inv.lstM (I : Inv X pins σ H s) (hH : H l = some (.lst xs)) : xs.length ≤ sizeLine ∧ ∃ (its : List Value) (n : Nat), Vals xs its ∧ xs.length = its.length ∧ s.heap.get? l = some { cls := .type "list", data := .seq its.toArray n } := by
  obtain ⟨z, its, n, r, e⟩ := I.hok l _ hH
  exact ⟨z, its, n, r, r.length, e⟩

end

section
variable {X : Cx}

/-! ### methods -/
noncomputable def rAppend : V → List V → Hp → VK → Prop := fun x vs H Q => ∃ l xs y, x = .ref l ∧ vs = [y] ∧ H l = some (.lst xs) ∧ xs.length < sizeLine ∧ Q .non (upd H l (.lst (xs ++ [y])))
theorem mt_append : MtM X "list.append" rAppend := by
  intro pins s σ H x vs v us Q I rx rv h
  obtain ⟨l, xs, y, rfl, rfl, hH, hz, q⟩ := h
  cases rx
  obtain ⟨u, rfl, ru⟩ := rv.one
  obtain ⟨z, its, n, r, hl, e⟩ := I.lstM hH
  refine call_meets F.slot_list_append ⟨_, e, rfl⟩ F.entry_list_append (F.args_list_append_2 _ _) (PySem.list_append l its.toArray n u (by rw [List.size_toArray]; omega)) ⟨e, ?_⟩
  refine ⟨.non, _, I.lset (its' := its ++ [u]) hH e (by simp) (r.append (.cons ru .nil)) ?_, rfl, q⟩
  rw [List.length_append, List.length_singleton]
  omega

/-! ### list + list, list += list, list * int -/
noncomputable def rCat : R2 := fun x y H Q => ∃ l b xs zs, x = .ref l ∧ y = .ref b ∧ H l = some (.lst xs) ∧ H b = some (.lst zs) ∧ xs.length + zs.length ≤ sizeLine ∧ ∀ p, H p = none → Q (.ref p) (upd H p (.lst (xs ++ zs)))
theorem op_cat : OpR X (binaryOp .Add) rCat := by
  intro pins s σ H x y v u Q I rx ry h
  obtain ⟨l, b, xs, zs, rfl, rfl, hH, hB, hz, q⟩ := h
  cases rx
  cases ry
  obtain ⟨z, its, n, r, hl, e⟩ := I.lstM hH
  obtain ⟨z2, its2, n2, r2, hl2, e2⟩ := I.lstM hB
  refine PySem.P.add_list e e2 ?_ (by rw [List.size_toArray, List.size_toArray]; omega)
  have ea : its.toArray ++ its2.toArray = (its ++ its2).toArray := by simp
  rw [ea]
  exact ⟨.ref _, _, I.lnew (t' := s.toks) (r.append r2) (by rw [List.length_append]; omega), rfl, q _ I.fresh⟩
/-! ### del xs[i] -/
end

/-! ### xs[a:b] = ys -/
section
variable {prog : Program} {w : World} {A : Around} {E : Value → Shared → Prop} {s : Shared}
end

section
variable {X : Cx}
end
end L2

namespace Att
open PySem PySem.W PySem.Calls PyProof.Rows

/-! ### the script -/
theorem ints_of_wellAll {P : Params} {h : Heap} : ∀ (ns : List Int) (vs : List Value), WellAll P h vs (ns.map WData.int) → IntsAre vs ns := by
  intro ns
  induction ns with
  | nil =>
    intro vs w
    rw [List.map_nil] at w
    cases w
    exact .nil
  | cons n ns ih =>
    intro vs w
    rw [List.map_cons] at w
    cases w with
    | cons a b =>
      cases a
      exact .cons _ _ (ih _ b)

theorem script_of {l : OpenLaw} {n : Nat} (hn : l.most = some n) {P : Params} {h : Heap} {args : List WData} {vals : List Value}
    (hpre : l.row.toRowW.claim.pre args = true) (hwl : WellAll P h vals args) :
    ∃ a vs ns, vals = [Value.ref a] ∧ args = [WData.list (ns.map WData.int)] ∧ h.get? a = some { cls := .type "list", data := .seq vs.toArray } ∧ IntsAre vs ns ∧ ns.length ≤ n := by
  have hsh : WShape.hasAll [] args [.list .int] = true := (pre_splitW hpre).1
  have hc : l.pre.holds [] { args := args } = true := (pre_splitW hpre).2
  obtain ⟨d, r, rfl, h1, h2⟩ := hasAllW_cons hsh
  obtain rfl := hasAllW_nil h2
  obtain ⟨xs, rfl, h3⟩ := hasW_list h1
  obtain ⟨ns, rfl⟩ := items_int h3
  have hlen : ns.length ≤ n := by
    unfold OpenLaw.pre at hc
    have h4 : (WTm.not (.lt (.lit (.int (n : Int))) (.len (.arg 0)))).holds [] { args := [.list (ns.map .int)] } = true := by
      have h4 := (holds_andW hc).1
      rw [hn] at h4
      exact h4
    have h5 := condW_of h4 (w_not (w_lt w_lit (w_len_list (w_arg rfl))))
    rw [List.length_map] at h5
    refine Nat.le_of_not_lt fun q => ?_
    have q' : (n : Int) < ((ns.length : Nat) : Int) := by omega
    first
      | (rw [decide_eq_true q'] at h5; exact absurd h5 (by decide))
      | (simp at h5; omega)
  cases hwl with
  | cons w1 w2 =>
    cases w2
    cases w1 with
    | list ho hall => exact ⟨_, _, ns, rfl, rfl, ho, ints_of_wellAll ns _ hall, hlen⟩

theorem post_true (l : OpenLaw) (args : List WData) : l.row.toRowW.claim.post args (.bool true) args = true :=
  postW_of (r := l.row.toRowW) (X := (true == true))
    (show WShape.has [] (.bool true) .bool = true by first | rfl | decide | simp [WShape.has, WShape.arms, WShape.armsAll])
    (show (WTm.eq .res (.lit (.bool true))).value [] { args := args, res := some (.bool true), after := args } = some (.bool (true == true)) from w_eq_bool (w_res rfl) w_lit) rfl

/-! ### the attachment: holds_open's last premise (the goal 'hc' behind k_head) from a wpAny of the law's body -/
/-- the same from a codeAny of the CALL (for a layer whose function contracts speak of calls) -/
theorem attach_call {l : OpenLaw} {n : Nat} {q : Program} {loose : List Str} {XP : (Str → Option Value) → Heap → Prop} {YP : World → Heap → Prop} {d : DefRec}
    (hn : l.most = some n) (hdf : d.params.defaults = [])
    (call : ∀ (w : World) (s₀ s₁ : Shared) (mg mb : Str → Option Value) (fa : Addr) (o : Obj) (pm cd doc : Value) (a : Addr) (vs : List Value) (ns : List Int),
      Ground q loose [] XP w s₀ mg mb s₁.heap → YP w s₁.heap →
      s₁.heap.get? fa = some o → o.data = .func (docDef d.name d.params d.body d.scope pm cd doc) → s₁.heap.CodeRec cd d.name → mg d.name = some (.ref fa) →
      s₁.heap.get? a = some { cls := .type "list", data := .seq vs.toArray } → IntsAre vs ns → ns.length ≤ n → s₁.gens = #[] →
      codeAny (model l.prog w) callerA (.call (.ref fa) ⟨[.ref a], []⟩) (fun r s' => r = .ok (.ret (.bool true)) ∧ OldK s₁.heap s'.heap ∧ s'.os = s₁.os ∧ AllBare s'.gens) s₁) :
    WalkO q loose XP YP l.row.toRowW d [] (fun f vs => PySem.call f vs) := by
  intro w s₀ s₁ mg mb G Y fa o pm cd doc dV kV ho hd hcd hD hmg hg args vals as hpre hlay hrd hwl hlo
  obtain rfl : dV = .none := Dflts.none hD hdf
  obtain rfl : kV = .none := Dflts.noKw hD
  obtain ⟨a, vs, ns, rfl, rfl, hobj, hints, hlen⟩ := script_of hn hpre hwl
  refine enter_call (codeAny_mono (call w s₀ s₁ mg mb fa o pm cd doc a vs ns G Y ho (fd_plain hd) hcd hmg hobj hints hlen hg) fun r s' hq => ?_)
  obtain ⟨rfl, h2, h3, h4⟩ := hq
  exact ⟨.inl ⟨.bool true, .bool true, [], rfl, fun _ => rfl, .bool true, post_true l _, fun _ => ⟨List.Pairwise.nil, fun _ hm => (nomatch hm)⟩⟩, h2, h3, h4⟩

/-! ### rules over ANY heap (no ledger) from facts about the written part K: the library's own take a ledger (News) for what they write -/
section
variable {prog : Program} {w : World} {A : Around} {E : Value → Shared → Prop} {s : Shared} {K : Frag}

/-! the whole heap as the ledger: makes every rule that writes through a ledger a rule over any heap -/
end
end Att

namespace L2
open PySem PySem.Spec PyProof.Rows

theorem vals_ints : ∀ {vs : List Value} {ns : List Int}, IntsAre vs ns → Vals (ns.map V.int) vs
  | _, _, .nil => .nil
  | _, _, .cons n t h => .cons ⟨t, rfl⟩ (vals_ints h)

/-- nothing is tracked but the script, known to the object (or it is an object of the module) -/
noncomputable def Only (H : Hp) : Prop := ∀ b, H b = none ∨ ∃ o xs, H b = some (.frz o (.lst xs))

/-- THE HEAD: the law's promise, at the heap behind the top. F, the promise of the law's def, may use that base is part of the heap (so K.In base, base.Ns mainGlobals mg stand in Mod) -/
theorem law_call {P : Program} {w : World} {K : PySem.W.Frag} {mg mb : Str → Option Value} {CX : CXT} {k : Nat} {fa a : Addr} {fd : FuncData} {x : Str} {sp : Sp} {s₁ : Shared} {vs : List Value} {ns : List Int}
    (KX : K.In s₁.heap) (hns : s₁.heap.Ns mainGlobals mg) (hb : s₁.heap.Ns builtinsNs mb) (hbb : ∀ x : Str, x ≠ "__name__" → mb x = bootBuiltins x) (hlim : s₁.heap.NoLimit) (hg : s₁.gens = #[])
    (ha : s₁.heap.get? a = some { cls := .type "list", data := .seq vs.toArray }) (hi : IntsAre vs ns) (hl : ns.length ≤ sizeLine) (hr : Room k callerA)
    (F : ∀ base : Heap, K.In base → base.Ns mainGlobals mg → FnOk P w K mg base CX k fa fd [x] sp) (hbind : ∀ (s : Shared) (u : Value), BindsTo s fd ⟨[u], []⟩ [(x, u)])
    (hsp : ∀ H : Hp, Only H → SqL K H a (ns.map V.int) → sp [.ref a] H (fun v _ => v = .bl true) fun _ _ _ => False)
    (hCX : ∀ H e s', CX [] H s₁ (fun _ _ _ => False) e s' → False) :
    codeAny (model P w) callerA (.call (.ref fa) ⟨[.ref a], []⟩) (fun r s' => r = .ok (.ret (.bool true)) ∧ OldK s₁.heap s'.heap ∧ s'.os = s₁.os ∧ AllBare s'.gens) s₁ := by
  have rv := vals_ints hi
  have lenV := hi.length
  -- from an abstract heap in which nothing but the script may be tracked
  have core : ∀ H : Hp, Only H → SqL K H a (ns.map V.int) → HOk P w H s₁.heap → (∀ b, H b ≠ none → b = a) → (H a ≠ none → K.lookup a = none) →
      codeAny (model P w) callerA (.call (.ref fa) ⟨[.ref a], []⟩) (fun r s' => r = .ok (.ret (.bool true)) ∧ OldK s₁.heap s'.heap ∧ s'.os = s₁.os ∧ AllBare s'.gens) s₁ := by
    intro H hO hS hok hA hK
    have base_of : ∀ {b : Addr} {o : Obj}, s₁.heap.get? b = some o → H b = none → (hidT s₁.heap H).get? b = some o := fun e n => hidT_get e n
    have noA : ∀ {b : Addr} {o : Obj} {es : Array DictEntry} {ep : Nat}, s₁.heap.get? b = some o → o.data = .dict es ep → H b = none := fun {b o es ep} e d => by
      cases q : H b with
      | none => rfl
      | some u =>
        have e' : b = a := hA b (by rw [q]; simp)
        subst e'
        rw [ha] at e; cases e
        have d' : Data.seq vs.toArray _ = Data.dict es ep := d
        cases d'
    have nsK : ∀ {b : Addr} {m : Str → Option Value}, s₁.heap.Ns b m → (hidT s₁.heap H).Ns b m := fun {b m} ⟨o, es, ep, e, d, r⟩ => ⟨o, es, ep, base_of e (noA e d), d, r⟩
    have hKb : K.In (hidT s₁.heap H) := fun b o e => base_of (KX b o e) (by
      cases q : H b with
      | none => rfl
      | some u =>
        have e' : b = a := hA b (by rw [q]; simp)
        subst e'
        rw [hK (by rw [q]; simp)] at e; cases e)
    have hM : Mod K mg (hidT s₁.heap H) := ⟨hKb, nsK hns, ⟨mb, nsK hb, hbb⟩, let ⟨mc, h1, h2⟩ := hlim; ⟨mc, nsK h1, h2⟩⟩
    have e0 : Env0 P w K mg (hidT s₁.heap H) callerA [] s₁ H := ⟨rfl, hM, fun b o e => of_hidT e, Nat.le_of_eq (hidT_size _ _), trivial, fun b hb => absurd (show b ∈ ([] : List Addr) from hb) (by simp), hok, .of_eq hg⟩
    refine codeAny_mono ((F _ hKb (nsK hns)).run callerA [] s₁ H ⟨[.ref a], []⟩ [.ref a] [.ref a] _ _ hr e0 (hbind s₁ (.ref a)) (.cons rfl .nil) (hsp H hO hS)) fun r s' h => ?_
    cases r with
    | error e => exact (hCX H e s' h).elim
    | ok fl =>
      cases fl with
      | next => exact False.elim h
      | brk => exact False.elim h
      | cont => exact False.elim h
      | ret u =>
        obtain ⟨v, H', os, bare, un, hok', r', q⟩ := h
        have q' : v = .bl true := q
        subst q'
        obtain rfl : u = Value.bool true := r'
        refine ⟨rfl, OldK.of_keep fun b o e => ?_, os, bare⟩
        cases q : H b with
        | none => exact un.keep b o e q (by intro z; exact absurd (show b ∈ ([] : List Addr) from z) (by simp)) (by simp)
        | some u =>
          rcases hO b with z | ⟨ob, xs, z⟩
          · rw [q] at z; cases z
          · have z2 := un.frzs b ob _ z
            obtain ⟨e1, _⟩ := hok b _ z
            obtain ⟨e2, _⟩ := hok' b _ z2
            rw [e] at e1; cases e1
            exact e2
  cases hk : K.lookup a with
  | some o =>
    -- the script is one of the module's own objects
    have e := KX a o hk
    rw [ha] at e
    cases e
    refine core (fun _ => none) (fun _ => .inl rfl) (.inr ⟨_, vs.toArray, _, hk, rfl, rfl, rfl, by rw [List.size_toArray, lenV]; exact hl, by simpa using rv⟩) (fun b u z => by have z' : (none : Option HO) = some u := z; cases z') (fun b z => absurd rfl z) fun z => absurd rfl z
  | none =>
    refine core (fun b => if b = a then some (.frz { cls := .type "list", data := .seq vs.toArray } (.lst (ns.map V.int))) else none) (fun b => ?_) (.inl (.inr ⟨{ cls := .type "list", data := .seq vs.toArray }, if_pos rfl⟩)) (fun b u z => ?_) (fun b z => ?_) fun _ => hk
    · by_cases hb : b = a
      · exact .inr ⟨_, _, if_pos hb⟩
      · exact .inl (if_neg hb)
    · by_cases hb : b = a
      · have z' := (if_pos hb).symm.trans z
        cases z'
        subst hb
        exact ⟨ha, by rw [List.length_map]; exact hl, vs, _, rv, ha⟩
      · have z' := (if_neg hb).symm.trans z
        cases z'
    · by_cases hb : b = a
      · exact hb
      · exact absurd (if_neg hb) z
end L2

namespace L2
open PySem PySem.Spec PyProof.Rows

/-- the goal that k_head leaves (case hc), from the law's promise. F gives the function object fd (K's own) once, then the promise over every base -/
theorem walk_of {l : PySem.W.OpenLaw} {n k : Nat} {q : Program} {loose : List Str} {XP : (Str → Option Value) → Heap → Prop} {YP : World → Heap → Prop} {d : DefRec} {K : Params → PySem.W.Frag} {CX : World → CXT} {sp : World → Sp} {x : Str}
    (hn : l.most = some n) (hn2 : n ≤ sizeLine) (hdf : d.params.defaults = []) (hr : Room k callerA)
    (hY : ∀ (w : World) (h : Heap), YP w h → (K w.params).In h)
    (F : ∀ (w : World) (mg : Str → Option Value) (fa : Addr) (h : Heap), (K w.params).In h → h.Ns mainGlobals mg → mg d.name = some (.ref fa) →
      ∃ fd : FuncData, (∀ (s : Shared) (u : Value), BindsTo s fd ⟨[u], []⟩ [(x, u)]) ∧
        ∀ base : Heap, (K w.params).In base → base.Ns mainGlobals mg → FnOk l.prog w (K w.params) mg base (CX w) k fa fd [x] (sp w))
    (hsp : ∀ (w : World) (H : Hp) (a : Addr) (ns : List Int), ns.length ≤ n → Only H → SqL (K w.params) H a (ns.map V.int) → sp w [.ref a] H (fun v _ => v = .bl true) fun _ _ _ => False)
    (hCX : ∀ (w : World) (H : Hp) (s : Shared) (e : Value) (s' : Shared), CX w [] H s (fun _ _ _ => False) e s' → False) :
    PySem.W.WalkO q loose XP YP l.row.toRowW d [] (fun f vs => PySem.call f vs) := by
  refine Att.attach_call hn hdf fun w s₀ s₁ mg mb fa o pm cd doc a vs ns G Y ho hd hcd hmg hobj hints hlen hg => ?_
  have KX := hY w _ Y
  obtain ⟨fd, hb, hF⟩ := F w mg fa _ KX G.T.g hmg
  exact law_call KX G.T.g G.T.b G.T.builtins G.T.nolimit hg hobj hints (Nat.le_trans hlen hn2) hr hF hb (fun H hO hS => hsp w H a ns hlen hO hS) fun H e s' => hCX w H s₁ e s'
end L2

/- THE LAST THEOREM (shape; LID, My.* are yours):
   My.Adr: a structure of the addresses that your layer names (classes, functions); My.Txt K t: a structure (Prop) of the equations over K;
   My.txt_mk : {K} {implicit addresses ..} (e1 : nsIn K mainGlobals "law" = some (some (.ref f))) (e2 : K.lookup f = some ⟨oc, od, .func (fnOf "law" "law" params body scope dV kV doc pm an cdv ct), sl⟩) (e3 : codeIn K cdv "law" = true) .. : ∃ t, My.Txt K t

set_option maxRecDepth 100000 in
set_option maxHeartbeats 0 in
theorem PySem.Challenge.cw_LID_holds : PySem.Challenge.rw_LID.Holds := by
  w_on; o_law; k_head; (case hw => w_witness2)
  k_fill
  refine L2.walk_of (l := PySem.Challenge.rw_LID) (n := 63) (k := 40) (x := "script") (CX := fun w => ..) (sp := fun _ => My.sp_law) rfl (by decide) rfl ⟨rfl, by decide, by decide⟩ (fun w h Y => PySem.W.kIn_of Y) ?F ?S ?C
  case F =>
    intro w mg fa h KX G hmg
    have T : ∃ t, My.Txt (L2.KOf KX) t := by
      dsimp only [L2.KOf]                          -- K must stand as «<heap const> w.params» for k_is
      refine' My.txt_mk ?e1 ?e2 ?e3 ..
      (case e1 => PySem.W.k_is)                    -- in the order: a name -> its address -> its object -> its parts
      (case e2 => PySem.W.k_is)
      ..
    obtain ⟨t, T⟩ := T
    have e0 := hmg.symm.trans (PySem.W.mg_of KX G T.law)
    cases e0                                       -- fa is the law's own address
    exact ⟨_, fun s u => .of_eq rfl, fun base kb nb => My.law_fn T kb nb⟩     -- if «.of_eq rfl» comes too early: refine' ⟨_, ?b, fun base kb nb => My.law_fn T kb nb⟩; exact fun s u => .of_eq rfl
  case S => exact fun w H a ns hl hO hS => ..
  case C => exact ..
(the tactic k_is has no namespace: write k_is) -/

/-! SHORT WORDS over the layer: a def of the text, its body, what a loop and a test want. -/
namespace L2
open PySem PySem.Spec PyProof.Rows

/-! ### the text by places -/
noncomputable def defArgs (s : Stmt) : Arguments := match s with
  | .FunctionDef _ a _ _ _ _ _ _ _ _ => a
  | _ => { posonlyargs := [], args := [], vararg := none, kwonlyargs := [], kw_defaults := [], kwarg := none, defaults := [] }
noncomputable def defBody (s : Stmt) : List Stmt := match s with
  | .FunctionDef _ _ b _ _ _ _ _ _ _ => b
  | _ => []
noncomputable def defScope (s : Stmt) : Scope := match s with
  | .FunctionDef _ _ _ _ _ _ sc _ _ _ => sc
  | _ => { kind := .function, names := [], isGenerator := false, isCoroutine := false }

/-! ### no exception leaves a def -/
noncomputable abbrev CX0 : CXT := fun _ _ _ _ _ _ => False
noncomputable abbrev E0 : XK := fun _ _ _ => False
theorem pass0 {X : Cx} : Passes CX0 X E0 := fun _ _ _ _ _ _ _ h => h.elim

/-! ### a def (or method) of the text as it stands behind the top -/
structure Fun (K : PySem.W.Frag) (x qual : Str) (st : Stmt) (f : Addr) (fd : FuncData) : Prop where
  ex : ∃ (oc : Value) (od : Option Addr) (kV doc pm : Value) (an : Option Addr) (cdv ct : Value) (osl : Array (Option Value)),
    fd = PySem.W.fnOf x qual (defArgs st) (defBody st) (defScope st) .none kV doc pm an cdv ct ∧ K.lookup f = some ⟨oc, od, .func fd, osl⟩ ∧ PySem.W.codeIn K cdv qual = true
  kp : PySem.W.keepIn K (.ref f) = true
section
variable {P : Program} {w : World} {K : PySem.W.Frag} {mg : Str → Option Value} {base : Heap}
/-- THE RULE for a def: its body as a term of rules, and the reading of that term -/
theorem Fun.ok {x qual : Str} {st : Stmt} {f : Addr} {fd : FuncData} {N ps : List Str} {k : Nat} {sp : Sp} (F : Fun K x qual st f fd) (S : FnScope N ps (defScope st)) (len : ∀ vs H Q E, sp vs H Q E → vs.length = ps.length)
    (hbody : ∀ (cdv : Value) (A : Around) (outer : List Env) (s : Shared) (H : Hp) (vs : List V) (Q : VK) (E : XK), Room k (A.deeper (envOfC qual (defScope st) s.heap.objs.size f cdv)) → sp vs H Q E →
      ∃ t, PSs (cxOf CX0 P w K mg base N qual (defScope st) f cdv A outer s H E).nox (defBody st) t ∧ t { nx := fun _ H' => Q .non H', rt := Q } (start N vs) H) : FnOk P w K mg base CX0 (k + 1) f fd ps sp := by
  obtain ⟨oc, od, kV, doc, pm, an, cdv, ct, osl, rfl, lk, hcd⟩ := F.ex
  refine fn_of lk hcd S len fun A outer s H vs Q E hr hsp => ?_
  obtain ⟨t, h, q⟩ := hbody cdv A outer s H vs Q E hr hsp
  exact ⟨t, h.nox, q⟩
/-- how its arguments bind (no defaults): h is «fun _ _ _ _ _ _ us hl => match us, hl with | [_, _], _ => rfl», one _ a parameter -/
theorem Fun.binds {x qual : Str} {st : Stmt} {f : Addr} {fd : FuncData} {ps : List Str} (F : Fun K x qual st f fd)
    (h : ∀ (kV doc pm : Value) (an : Option Addr) (cdv ct : Value) (us : List Value), us.length = ps.length → bindArgs (PySem.W.fnOf x qual (defArgs st) (defBody st) (defScope st) .none kV doc pm an cdv ct) ⟨us, []⟩ = pure (ps.zip us)) : Binds K fd ps [] := by
  obtain ⟨oc, od, kV, doc, pm, an, cdv, ct, osl, rfl, lk, hcd⟩ := F.ex
  exact .all (h kV doc pm an cdv ct)
theorem fun_mk {x qual : Str} {st : Stmt} {f : Addr} {oc : Value} {od an : Option Addr} {osl : Array (Option Value)} {kV doc pm cdv ct : Value} (l : K.lookup f = some ⟨oc, od, .func (PySem.W.fnOf x qual (defArgs st) (defBody st) (defScope st) .none kV doc pm an cdv ct), osl⟩)
    (c : PySem.W.codeIn K cdv qual = true) (k : PySem.W.keepIn K (.ref f) = true) : Fun K x qual st f (PySem.W.fnOf x qual (defArgs st) (defBody st) (defScope st) .none kV doc pm an cdv ct) := ⟨⟨oc, od, kV, doc, pm, an, cdv, ct, osl, rfl, l, c⟩, k⟩
end
theorem small1000 {n : Nat} (h : n ≤ 1000) : n < sizeLine := Nat.lt_of_le_of_lt h (by decide)

/-! ### expressions in short: the name that stands in the i-th slot -/
section
variable {X : Cx}
theorem pv (i : Nat) {x : Str} {pos : Pos} (hN : X.N[i]? = some x := by rfl) (hv : Vis X.env.scope x := by first | exact Or.inl rfl | exact Or.inr (Or.inl rfl) | exact Or.inr (Or.inr rfl)) (hd : (x == ("__debug__" : Str)) = false := by decide)
    (hcd : (x == ("__classdict__" : Str)) = false := by decide) : PE X (.Name x pos) (tVar i) := pe_var hN hv hd hcd
end

/-! ### tests -/
theorem iteF {A B : Prop} (h : B) : if false = true then A else B := by
  rw [if_neg Bool.false_ne_true]
  exact h
theorem iteT {A B : Prop} (h : A) : if true = true then A else B := by
  rw [if_pos rfl]
  exact h
theorem ite2 {c A B : Prop} [Decidable c] (h1 : c → A) (h2 : ¬ c → B) : if c then A else B := by
  by_cases h : c
  · rw [if_pos h]
    exact h1 h
  · rw [if_neg h]
    exact h2 h
/-! ### heaps -/
/-- all that was tracked is as it was -/
noncomputable def Same (H H' : Hp) : Prop := ∀ b o, H b = some o → H' b = some o
theorem Same.refl (H : Hp) : Same H H := fun _ _ h => h
theorem Same.trans {H H1 H2 : Hp} (a : Same H H1) (b : Same H1 H2) : Same H H2 := fun c o h => b c o (a c o h)
theorem Same.free {H H' : Hp} (e : Same H H') {l : Addr} (h : H' l = Option.none) : H l = Option.none := by
  cases q : H l with
  | none => rfl
  | some o =>
    rw [e l o q] at h
    cases h
theorem Same.seq {K : PySem.W.Frag} {H H' : Hp} {a : Addr} {xs : List V} (e : Same H H') (h : SqL K H a xs) : SqL K H' a xs := by
  rcases h with (h | ⟨o, h⟩) | h
  · exact .inl (.inl (e _ _ h))
  · exact .inl (.inr ⟨o, e _ _ h⟩)
  · exact .inr h

end L2

set_option maxHeartbeats 4000000
namespace L2
open PySem PySem.Spec PyProof.Rows

/-! ### the cells that a comprehension's block is handed -/
noncomputable def clF (cells : List (Str × Addr)) : List (Str × NameKind) → List (Str × Addr) → List (Str × Addr)
  | [], cs => cs
  | (n, k) :: r, cs => clF cells r (if k == .free then (match cells.lookup n with | some c => (n, c) :: cs | none => cs) else cs)

theorem clF_mem {cells : List (Str × Addr)} : ∀ (names : List (Str × NameKind)) (cs : List (Str × Addr)) (n : Str) (c : Addr), (n, c) ∈ clF cells names cs → (n, c) ∈ cs ∨ (cells.lookup n = some c ∧ (n, NameKind.free) ∈ names)
  | [], cs, n, c, h => .inl h
  | (m, k) :: r, cs, n, c, h => by
    rcases clF_mem r _ n c h with q | ⟨q, z⟩
    · by_cases hk : (k == NameKind.free) = true
      · rw [if_pos hk] at q
        have hk' : k = .free := by simpa using hk
        cases e : cells.lookup m with
        | none => rw [e] at q; exact .inl q
        | some d =>
          rw [e] at q
          rcases List.mem_cons.mp q with z | z
          · cases z; exact .inr ⟨e, by rw [hk']; exact List.mem_cons_self⟩
          · exact .inl z
      · rw [if_neg hk] at q; exact .inl q
    · exact .inr ⟨q, List.mem_cons_of_mem _ z⟩
theorem clF_sub {cells : List (Str × Addr)} : ∀ (names : List (Str × NameKind)) (cs : List (Str × Addr)), ∀ p ∈ cs, p ∈ clF cells names cs
  | [], cs, p, h => h
  | (m, k) :: r, cs, p, h => by
    refine clF_sub r _ p ?_
    by_cases hk : (k == NameKind.free) = true
    · rw [if_pos hk]
      cases cells.lookup m with
      | none => exact h
      | some d => exact List.mem_cons_of_mem _ h
    · rw [if_neg hk]; exact h
theorem clF_has {cells : List (Str × Addr)} : ∀ (names : List (Str × NameKind)) (cs : List (Str × Addr)) (n : Str) (c : Addr), (n, NameKind.free) ∈ names → cells.lookup n = some c → (n, c) ∈ clF cells names cs
  | [], _, _, _, h, _ => nomatch h
  | (m, k) :: r, cs, n, c, h, e => by
    rcases List.mem_cons.mp h with z | z
    · cases z
      refine clF_sub r _ _ ?_
      rw [if_pos (by rfl), e]
      exact List.mem_cons_self
    · exact clF_has r _ n c z e
theorem lookup_isSome_of_mem {β : Type} : ∀ {l : List (Str × β)} {n : Str} {c : β}, (n, c) ∈ l → ∃ d, l.lookup n = some d
  | (m, d) :: r, n, c, h => by
    cases e : n == m with
    | true => exact ⟨d, by simp [List.lookup_cons, e]⟩
    | false =>
      have e' : n ≠ m := by simpa using e
      rcases List.mem_cons.mp h with z | z
      · cases z; exact absurd rfl e'
      · obtain ⟨q, hq⟩ := lookup_isSome_of_mem z
        exact ⟨q, by simp [List.lookup_cons, e, hq]⟩
theorem clF_lookup {cells : List (Str × Addr)} {names : List (Str × NameKind)} {n : Str} {c : Addr} (h : (clF cells names []).lookup n = some c) : cells.lookup n = some c ∧ (n, NameKind.free) ∈ names := by
  rcases clF_mem names [] n c (PySem.mem_of_lookup h) with z | z
  · cases z
  · exact z
theorem closure_eq {env : Env} {scope : Scope} (hf : ∀ n, (n, NameKind.free) ∈ scope.names → ∃ c, env.cells.lookup n = some c) : closureFor scope env = pure (clF env.cells scope.names []) := by
  have go : ∀ (l : List (Str × NameKind)) (cs : List (Str × Addr)), (∀ n, (n, NameKind.free) ∈ l → ∃ c, env.cells.lookup n = some c) →
      (forIn l cs (fun x r => match x with | (name, kind) => if (kind == NameKind.free) = true then do
        let y ← cellOf env name
        pure (ForInStep.yield ((name, y) :: r)) else pure (ForInStep.yield r)) : Sem (List (Str × Addr))) = pure (clF env.cells l cs) := by
    intro l
    induction l with
    | nil => intro cs _; rfl
    | cons x r ih =>
      intro cs h
      obtain ⟨n, k⟩ := x
      rw [List.forIn_cons]
      by_cases hk : (k == NameKind.free) = true
      · have hk' : k = .free := by simpa using hk
        obtain ⟨c, e⟩ := h n (by rw [hk']; exact List.mem_cons_self)
        have ec : cellOf env n = pure c := by unfold cellOf; rw [e]
        simp only [hk, if_true, ec, pure_bind]
        rw [ih _ fun m hm => h m (List.mem_cons_of_mem _ hm)]
        show _ = pure (clF env.cells r _)
        rw [if_pos hk, e]
      · have hk' : (k == NameKind.free) = false := by simpa using hk
        have e1 := ih cs fun m hm => h m (List.mem_cons_of_mem _ hm)
        show (((if (k == NameKind.free) = true then _ else pure (ForInStep.yield cs)) : Sem _) >>= _) = _
        rw [if_neg hk, pure_bind]
        refine Eq.trans e1 ?_
        show _ = pure (clF env.cells r _)
        rw [if_neg hk]
  unfold closureFor
  have := go scope.names [] hf
  rw [bind_pure]
  exact this
end L2

namespace L2
open PySem PySem.Spec PyProof.Rows

/-- a comprehension's own scope against the block around it -/
structure CScope (X : Cx) (xs : List Str) (sc : Scope) : Prop where
  kind : sc.kind = .function
  nocell : ∀ y ∈ sc.names, y.2 ≠ .cell
  names : ∀ y ∈ sc.names, y.2 = .local → sc.names.lookup y.1 = some .local
  own : ∀ x ∈ xs, sc.names.lookup x = some .local
  sep : ∀ y ∈ X.N, sc.names.lookup y ≠ some .local
  frees : ∀ y ∈ sc.names, y.2 = .free → X.env.kindOf y.1 = some .cell ∨ X.env.kindOf y.1 = some .free
  nd : (xs ++ X.N).Nodup

/-- the context of a comprehension's block -/
noncomputable def cxC (X : Cx) (xs : List Str) (sc : Scope) (ex : List Addr) (s : Shared) (H : Hp) : Cx where
  prog := X.prog
  w := X.w
  K := X.K
  mg := X.mg
  base := X.base
  A := X.A
  N := xs ++ X.N
  s₀ := s
  H₀ := H
  env := compEnvC sc (clF X.env.cells sc.names []) s.heap.objs.size X.env
  outer := X.stack
  stack := X.stack
  ex := ex
  fn := fun _ => false
  calm := X.calm
  pn := []
  xe := fun _ _ => False

theorem lookup_relabel (env : Env) (x : Str) : ∀ names : List (Str × NameKind),
    (names.map fun (n, k) => if (k == NameKind.free && env.scope.kind == .function && env.kindOf n == some .cell) then (n, NameKind.cell) else (n, k)).lookup x =
      (names.lookup x).map fun k => if (k == NameKind.free && env.scope.kind == .function && env.kindOf x == some .cell) then NameKind.cell else k
  | [] => rfl
  | (n, k) :: r => by
    have ih := lookup_relabel env x r
    show List.lookup x ((if (k == NameKind.free && env.scope.kind == .function && env.kindOf n == some .cell) = true then (n, NameKind.cell) else (n, k)) :: _) = _
    cases hx : x == n with
    | true =>
      have e : x = n := by simpa using hx
      subst e
      by_cases hc : (k == NameKind.free && env.scope.kind == .function && env.kindOf x == some .cell) = true
      · rw [if_pos hc]
        simp only [List.lookup_cons, hx, Option.map_some]
        rw [if_pos hc]
      · rw [if_neg hc]
        simp only [List.lookup_cons, hx, Option.map_some]
        rw [if_neg hc]
    | false =>
      by_cases hc : (k == NameKind.free && env.scope.kind == .function && env.kindOf n == some .cell) = true
      · rw [if_pos hc]; simp only [List.lookup_cons, hx]; exact ih
      · rw [if_neg hc]; simp only [List.lookup_cons, hx]; exact ih

/-- a name of the block around, seen in the comprehension, is a free one -/
theorem vis_relabel {sc : Scope} {env : Env} {x : Str} (h : Vis (relabel sc env) x) (hl : sc.names.lookup x ≠ some .local) (hc : ∀ y ∈ sc.names, y.2 ≠ .cell) :
    (x, NameKind.free) ∈ sc.names ∧ ((relabel sc env).names.lookup x = some .cell ∨ (relabel sc env).names.lookup x = some .free) := by
  have e : (relabel sc env).names.lookup x = _ := lookup_relabel env x sc.names
  unfold Vis at h
  rw [e] at h
  cases k : sc.names.lookup x with
  | none => rw [k] at h; simp at h
  | some v =>
    have mem := PySem.mem_of_lookup k
    have nl : v ≠ .local := fun z => hl (by rw [k, z])
    have ncl : v ≠ .cell := fun z => hc _ mem z
    rw [k] at h
    rw [e, k]
    simp only [Option.map_some] at h ⊢
    by_cases hv : v = .free
    · subst hv
      refine ⟨mem, ?_⟩
      split
      · exact .inl rfl
      · exact .inr rfl
    · have : (v == NameKind.free) = false := by simpa using hv
      simp only [this, Bool.false_and] at h
      rcases h with h | h | h
      · exact absurd (Option.some.inj h) nl
      · exact absurd (Option.some.inj h) ncl
      · exact absurd (Option.some.inj h) hv

section
variable {X : Cx} {pins : List (Addr × Obj)} {σ : St} {H : Hp} {s : Shared} {xs : List Str} {sc : Scope} {ex : List Addr}
theorem CScope.cells (S : CScope X xs sc) (ok : X.Ok) : ∀ n, (n, NameKind.free) ∈ sc.names → ∃ c, X.env.cells.lookup n = some c := fun n h => ok.has n (S.frees _ h rfl)
theorem cxC_ok (S : CScope X xs sc) (I : Inv X pins σ H s) (he : ∀ b ∈ ex, b < s.heap.objs.size ∧ b ∉ frs X.stack ∧ (∀ x c, X.env.cells.lookup x = some c → c ≠ b) ∧ X.base.get? b = none) : (cxC X xs sc ex s H).Ok := by
  refine ⟨I.ok.mod, S.kind, I.ok.glob, I.ok.blt, Nat.le_refl _, fun x y c h1 h2 => ?_, fun x hx => ?_, fun _ _ h => (by cases h), I.ok.hd, I.ok.frames, .inl rfl, fun b hb => ⟨Nat.ne_of_lt (he b hb).1, fun x c h => (he b hb).2.2.1 x c (clF_lookup h).1⟩, fun b o e => ?_, ?_, fun b o e hb => ?_, fun b hb => (he b hb).2.1, I.stack, I.stkFree⟩
  · exact I.ok.inj x y c (clF_lookup h1).1 (clF_lookup h2).1
  · have hv : (relabel sc X.env).names.lookup x = some .cell ∨ (relabel sc X.env).names.lookup x = some .free := hx
    have q : (x, NameKind.free) ∈ sc.names := by
      have e : (relabel sc X.env).names.lookup x = _ := lookup_relabel X.env x sc.names
      rw [e] at hv
      cases k : sc.names.lookup x with
      | none => rw [k] at hv; simp at hv
      | some v =>
        have mem := PySem.mem_of_lookup k
        rw [k] at hv
        simp only [Option.map_some] at hv
        by_cases hvf : v = .free
        · rw [hvf] at mem; exact mem
        · have : (v == NameKind.free) = false := by simpa using hvf
          simp only [this, Bool.false_and] at hv
          rcases hv with h | h
          · exact absurd (Option.some.inj h) (S.nocell _ mem)
          · exact absurd (Option.some.inj h) hvf
    obtain ⟨c, e⟩ := S.cells I.ok x q
    exact lookup_isSome_of_mem (clF_has sc.names [] x c q e)
  · exact I.bs b o e
  · exact Nat.le_trans I.ok.bsz I.sz
  · have q : X.base.get? b = none := (he b hb).2.2.2
    have e' : X.base.get? b = some o := e
    rw [q] at e'; cases e'

/-- the block's first state -/
theorem inv_comp {h₁ : Heap} {tk : Nat} (S : CScope X xs sc) (I : Inv X pins σ H s) (he : ∀ b ∈ ex, b < s.heap.objs.size ∧ b ∉ frs X.stack ∧ (∀ x c, X.env.cells.lookup x = some c → c ≠ b) ∧ X.base.get? b = none)
    (hn : h₁.Ns s.heap.objs.size (fun _ => none)) (hk : ∀ b o, s.heap.get? b = some o → h₁.get? b = some o) :
    Inv (cxC X xs sc ex s H) [] (List.replicate xs.length none ++ σ) H { s with heap := h₁, toks := tk } := by
  have I1 : Inv X pins σ H { s with heap := h₁, toks := tk } := I.kept hk
  refine ⟨cxC_ok S I he, rfl, I.bare, Un.kept hk, ⟨_, hn, fun i x v h1 h2 h3 => ?_⟩, fun x c h => I1.cell x c (clF_lookup h).1, I.hok.fresh (Nat.le_refl _), fun x c h => I.freeC x c (clF_lookup h).1, fun p hp => absurd (show p ∈ ([] : List (Addr × Obj)) from hp) (by simp), I.hok.kept hk, ?_⟩
  · have h1' : (xs ++ X.N)[i]? = some x := h1
    by_cases hi : i < xs.length
    · rw [List.getElem?_append_left (by simpa using hi), List.getElem?_replicate, if_pos hi] at h2
      cases h2
    · have hi' : xs.length ≤ i := Nat.le_of_not_lt hi
      rw [List.getElem?_append_right (by simpa using hi')] at h2
      rw [List.getElem?_append_right hi'] at h1'
      rw [List.length_replicate] at h2
      have hm : x ∈ X.N := List.mem_of_getElem? h1'
      obtain ⟨hf, hkd⟩ := vis_relabel h3 (S.sep x hm) S.nocell
      have hko := S.frees _ hf rfl
      obtain ⟨m, _, hl⟩ := I1.loc
      obtain ⟨u, r, l⟩ := hl (i - xs.length) x v h1' h2 (by
        rcases hko with z | z
        · exact .inr (.inl z)
        · exact .inr (.inr z))
      refine ⟨u, r, .inr ⟨hkd, ?_⟩⟩
      rcases l with ⟨z, _⟩ | ⟨_, c, ec, hc⟩
      · rcases hko with q | q <;> (rw [q] at z; cases z)
      · obtain ⟨d, ed⟩ := lookup_isSome_of_mem (clF_has sc.names [] x c hf ec)
        have : c = d := by
          have := (clF_lookup ed).1
          rw [ec] at this
          exact Option.some.inj this
        subst this
        exact ⟨c, ed, hc⟩
  · show (List.replicate xs.length none ++ σ).length = (xs ++ X.N).length
    rw [List.length_append, List.length_append, List.length_replicate, I.len]
end
end L2

namespace L2
open PySem PySem.Spec PyProof.Rows

section
variable {prog : Program} {w : World} {A : Around} {R : Result → Shared → Prop} {s : Shared}
/-- a comprehension's loop, no exception leaving it -/
theorem compLoop_of {elt target iter : Expr} {ifs : List Expr} {scope : Scope} {pos : Pos} {it acc : Value} {env : Env} (I : Nat → Shared → Prop)
    (turn : ∀ n s, I n s → wpAny (model prog w) A (pyNext it) (fun r s₁ => match r with
      | none => R (.ok .next) s₁
      | some v => wpAny (model prog w) A (letOwnedTupleGo target it v) (fun _ s₁' => wpAny (model prog w) A (assign target env v) (fun _ s₂ =>
          wpAny (model prog w) A (forIn ifs true fun c r => if r = true then do let ok ← isTrue c env (eval c env); pure (ForInStep.yield ok) else pure (ForInStep.yield r)) (fun ok s₃ =>
            if ok = true then wpAny (model prog w) A (eval elt env) (fun x s₄ =>
              wpAny (model prog w) A (call (.builtin "list.append") [acc, x]) (fun _ s₅ => ∃ m, m < n ∧ I m s₅) (fun _ _ => False) s₄) (fun _ _ => False) s₃
            else ∃ m, m < n ∧ I m s₃) (fun _ _ => False) s₂) (fun _ _ => False) s₁') (fun _ _ => False) s₁) (fun _ _ => False) s)
    (n : Nat) (h : I n s) :
    codeAny (model prog w) A (.compLoop (.ListComp elt [⟨target, iter, ifs, 0⟩] scope pos) 0 it acc env) R s := by
  refine codeAny_loop rfl I (fun n s hI => ?_) n h
  show wpAny _ A ((compTurn (.ListComp elt [⟨target, iter, ifs, 0⟩] scope pos) 0 it acc env).onRaise (fun x => do noteFrame x env; theTreesLotGoes x)) _ _ s
  refine wpAny_noted ?_
  rw [compTurn_list]
  refine wpAny_bind (wpAny_standAt (wpAny_bind (wpAny_mono (turn n s hI) (fun r s₁ h₁ => ?_) fun _ _ h' => h'.elim)))
  cases r with
  | none => exact wpAny_pure h₁
  | some v =>
    refine wpAny_bind (wpAny_mono h₁ (fun _ s₁' h₁' => ?_) fun _ _ h' => h'.elim)
    refine wpAny_bind (wpAny_mono h₁' (fun _ s₂ h₂ => wpAny_bind (wpAny_mono h₂ (fun ok s₃ h₃ => ?_) fun _ _ h' => h'.elim)) fun _ _ h' => h'.elim)
    cases ok with
    | false => exact wpAny_pure ⟨rfl, h₃⟩
    | true =>
      exact wpAny_bind (wpAny_bind (wpAny_mono h₃ (fun x s₄ h₄ => wpAny_bind (wpAny_mono h₄ (fun _ s₅ h₅ => wpAny_pure (wpAny_pure ⟨rfl, h₅⟩)) fun _ _ h' => h'.elim)) fun _ _ h' => h'.elim))
end

/-- the tests of a clause -/
noncomputable def PTs (X : Cx) (ifs : List Expr) (t : TT) : Prop :=
  ∀ (pins : List (Addr × Obj)) (s : Shared) (σ : St) (H : Hp) (Q : Bool → Hp → Prop), Inv X pins σ H s → t σ H Q →
    wpAny (model X.prog X.w) X.A (forIn ifs true fun c r => if r = true then do let ok ← isTrue c X.env (eval c X.env); pure (ForInStep.yield ok) else pure (ForInStep.yield r)) (TP X pins σ Q) X.xe s
noncomputable def tYes : TT := fun _ H Q => Q true H
theorem pts_nil {X : Cx} : PTs X [] tYes := fun _ _ _ H _ I h => wpAny_tests_nil ⟨H, I, h⟩
theorem pts_one {X : Cx} {c : Expr} {t : TT} (h : PT X c t) : PTs X [c] t := fun pins s σ H Q I q => wpAny_tests_one (h pins s σ H Q I q)

section
variable {X : Cx} {pins : List (Addr × Obj)} {σ : St} {H : Hp} {s2 : Shared} {tg iter elt : Expr} {ifs : List Expr} {sc : Scope} {pos : Pos} {xs : List Str} {g : TG} {tc : TT} {te : TE} {J : It} {fp : List Addr} {it : Addr} {tn : Nat → Heap → Prop}
/-- a list object that stands untracked is taken into the tracked ones -/
theorem HOk.adopt {P : Program} {w : World} {H : Hp} {h : Heap} {a : Addr} {xs : List V} {its : List Value} {n : Nat} (x : HOk P w H h) (hn : H a = none) (hz : xs.length ≤ sizeLine) (r : Vals xs its) (e : h.get? a = some { cls := .type "list", data := .seq its.toArray n }) :
    HOk P w (upd H a (.lst xs)) h := fun b u q => by
  by_cases hb : b = a
  · subst hb; rw [upd_same] at q; cases q; exact ⟨hz, its, n, r, e⟩
  · rw [upd_ne hb] at q
    exact (x b u q).stay (fun c v _ q => q) (fun c q => by rw [upd_ne (ne_of_none q hn)]; exact q) fun c xs q => by rw [upd_ne (ne_of_none q hn)]; exact q

theorem comp_core {E : Value → Shared → Prop} {RR : Value → Addr → Result → Shared → Prop} (S : CScope X xs sc) (hcalm : X.calm = true)
    (hg : ∀ ex s3 H3, PG (cxC X xs sc ex s3 H3) tg g) (ht : ∀ ex s3 H3, PTs (cxC X xs sc ex s3 H3) ifs tc) (he : ∀ ex s3 H3, PE (cxC X xs sc ex s3 H3) elt te)
    (I : Inv X pins σ H s2) (T : Turn X.prog X.w X.K tg J fp it tn) (st : tn 0 s2.heap) (f2 : ∀ b ∈ fp, FpOk X pins H b)
    (W : Nat → Nat → List V → Hp → Prop) (w0 : ∃ m, W 0 m [] H) (F : List V → Hp → Prop)
    (turn : ∀ i m acc H, W i m acc H → (J.stop i H ∧ acc.length ≤ sizeLine ∧ F acc H) ∨
      (J.go i H ∧ acc.length < sizeLine ∧ ∃ N : List V → Hp → Prop, (∀ acc' H', N acc' H' → ∃ m', m' < m ∧ W (i + 1) m' acc' H') ∧ ∀ x H', J.yld i H x H' → g x (List.replicate xs.length none ++ σ) H' fun σ2 H2 => σ2.drop xs.length = σ ∧ tc σ2 H2 fun c H3 =>
        if c = true then te σ2 H3 fun y H4 => N (acc ++ [y]) H4 else N acc H3))
    (fin : ∀ D C s' acc H', (∃ m, s'.heap.Ns C m) → FpOk X pins (upd H' D (.lst acc)) C → F acc H' → H' D = none → Inv X pins σ (upd H' D (.lst acc)) s' → RR (.ref D) C (.ok .next) s') :
    wpAny (model X.prog X.w) X.A (newList []) (fun acc s3 => wpAny (model X.prog X.w) X.A (newFunctionEnv sc X.env.globals (clF X.env.cells sc.names []) [] X.env.qual none .none (some X.env)) (fun cenv s4 =>
      codeAny (model X.prog X.w) X.A (.compStart (.ListComp elt [⟨tg, iter, ifs, 0⟩] sc pos) 0 (.ref it) acc { cenv with scope := relabel sc X.env }) (RR acc cenv.locals) s4) E s3) E s2 := by
  refine wpAny_newObj_type (wpAny_newFunctionEnv S.nocell (by intro y hy; simp at hy) (fun h₁ hns₁ hsb₁ => ?_) S.kind)
  dsimp only at hns₁ hsb₁ ⊢
  generalize hH3 : s2.heap.push { cls := .type "list", dict := none, data := .seq ([] : List Value).toArray } = H3 at hns₁ hsb₁ ⊢
  have hC : H3.objs.size = s2.heap.objs.size + 1 := by rw [← hH3, Heap.size_push]
  have hDC : s2.heap.objs.size ≠ H3.objs.size := by rw [hC]; exact Nat.ne_of_lt (Nat.lt_succ_self _)
  have old3 : ∀ b o, s2.heap.get? b = some o → H3.get? b = some o := fun b o e => hH3 ▸ Heap.get?_push_of_some _ e
  have k1 : ∀ b o, H3.get? b = some o → h₁.get? b = some o := fun b o e => hsb₁.extBut b o (Nat.ne_of_lt (Heap.lt_size e)) (Heap.get?_push_of_some _ e)
  have I3 : Inv X pins σ H { s2 with heap := H3 } := I.kept old3
  have fpLt : ∀ b ∈ fp, b < s2.heap.objs.size := fun b hb => by
    obtain ⟨o, e, _⟩ := T.obj _ _ st b hb
    exact Heap.lt_size e
  have hnofr : ∀ b, s2.heap.objs.size ≤ b → b ∉ frs X.stack := fun b hb z => by
    rcases List.mem_cons.mp (I.stkSub b z) with q | q
    · exact absurd (Nat.lt_of_lt_of_le I.lt hb) (by rw [q]; exact Nat.lt_irrefl _)
    · exact I.nofs hb q
  have hnocell : ∀ b, s2.heap.objs.size ≤ b → ∀ x c, X.env.cells.lookup x = some c → c ≠ b := fun b hb x c e z => by
    obtain ⟨v, q⟩ := I.cell x c e
    exact absurd (Nat.lt_of_lt_of_le q.lt (by rw [z]; exact hb)) (Nat.lt_irrefl _)
  have hnobase : ∀ b, s2.heap.objs.size ≤ b → X.base.get? b = none := fun b hb => Heap.get?_none_of_le (Nat.le_trans (Nat.le_trans I.ok.bsz I.sz) hb)
  have fpfr : ∀ b ∈ fp, b ∉ frs X.stack := fun b hb z => by
    rcases List.mem_cons.mp (I.stkSub b z) with q | q
    · exact (f2 b hb).2.1 q
    · exact (f2 b hb).2.2.1 q
  have fpbase : ∀ b ∈ fp, X.base.get? b = none := fun b hb => by
    rcases (f2 b hb).2.2.2.1 with z | z
    · cases e : X.base.get? b with
      | none => rfl
      | some o => exact absurd z (I.ok.noex b o e)
    · exact Heap.get?_none_of_le (Nat.le_trans I.ok.bsz z)
  have hex : ∀ b ∈ (s2.heap.objs.size :: fp), b < H3.objs.size ∧ b ∉ frs X.stack ∧ (∀ x c, X.env.cells.lookup x = some c → c ≠ b) ∧ X.base.get? b = none := fun b hb => by
    rcases List.mem_cons.mp hb with z | z
    · subst z
      exact ⟨by rw [hC]; exact Nat.lt_succ_self _, hnofr _ (Nat.le_refl _), hnocell _ (Nat.le_refl _), hnobase _ (Nat.le_refl _)⟩
    · exact ⟨by rw [hC]; exact Nat.lt_succ_of_lt (fpLt b z), fpfr b z, (f2 b z).2.2.2.2.1, fpbase b z⟩
  have I4 := inv_comp (ex := s2.heap.objs.size :: fp) (tk := s2.toks + ([] : List (Str × Value)).length) S I3 hex hns₁ k1
  generalize hX' : cxC X xs sc (s2.heap.objs.size :: fp) { s2 with heap := H3 } H = X' at I4
  have hDn : H s2.heap.objs.size = none := I.hok.fresh (Nat.le_refl _)
  have hDobj : h₁.get? s2.heap.objs.size = some { cls := .type "list", data := .seq (([] : List Value)).toArray 0 } := k1 _ _ (hH3 ▸ Heap.get?_push_size _ rfl)
  have st1 : tn 0 h₁ := T.keep _ _ _ st fun b _ o e => k1 b o (old3 b o e)
  obtain ⟨m0, w0⟩ := w0
  -- the block's facts about D and the iterator, whatever the state
  have eXex : X'.ex = s2.heap.objs.size :: fp := by rw [← hX']; rfl
  have eXloc : X'.env.locals = H3.objs.size := by rw [← hX']; rfl
  have eXfs : X'.fs = frs X.stack := by rw [← hX']; rfl
  have eXcl : X'.env.cells = clF X.env.cells sc.names [] := by rw [← hX']; rfl
  have eXpn : X'.pn = [] := by rw [← hX']; rfl
  have eXm : X'.prog = X.prog ∧ X'.w = X.w ∧ X'.K = X.K ∧ X'.calm = true ∧ X'.A = X.A ∧ X'.xe = fun _ _ => False := by rw [← hX']; exact ⟨rfl, rfl, rfl, hcalm, rfl, rfl⟩
  obtain ⟨eP, ew, eK, ec, eA, exe⟩ := eXm
  have envE : X'.env = { newEnv sc H3.objs.size X.env.globals (clF X.env.cells sc.names []) X.env.qual none .none (some X.env) builtinsNs with scope := relabel sc X.env } := by rw [← hX']; rfl
  have hg' : PG X' tg g := hX' ▸ hg _ _ _
  have ht' : PTs X' ifs tc := hX' ▸ ht _ _ _
  have he' : PE X' elt te := hX' ▸ he _ _ _
  have hs0 : X'.s₀.heap = H3 := by rw [← hX']; rfl
  have hH0 : X'.H₀ = H := by rw [← hX']; rfl
  have hos : X'.s₀.os = s2.os := by rw [← hX']; rfl
  have loop : ∀ s₃ : Shared, s₃ = { s2 with heap := h₁, toks := s2.toks + ([] : List (Str × Value)).length } →
      codeAny (model X.prog X.w) X.A (.compLoop (.ListComp elt [⟨tg, iter, ifs, 0⟩] sc pos) 0 (.ref it) (.ref s2.heap.objs.size) X'.env) (RR (.ref s2.heap.objs.size) H3.objs.size) s₃ := by
    rintro s₃ rfl
    refine compLoop_of (fun n s' => ∃ i acc its k H', Inv X' [] (List.replicate xs.length none ++ σ) H' s' ∧ tn i s'.heap ∧ (∀ b ∈ fp, H' b = none) ∧ H' s2.heap.objs.size = none ∧ Vals acc its ∧
      s'.heap.get? s2.heap.objs.size = some { cls := .type "list", data := .seq its.toArray k } ∧ W i n acc H') ?_ m0
      ⟨0, [], [], 0, H, I4, st1, fun b hb => (f2 b hb).1, hDn, .nil, hDobj, w0⟩
    rintro n s' ⟨i, acc, its, k, H', I', st', fr', hD', rv, hobj, w'⟩
    have fpok : ∀ {o : Obj} {H'' : Hp}, (∀ b ∈ fp, H'' b = none) → ∀ b ∈ fp, FpOk X' [(s2.heap.objs.size, o)] H'' b := fun {o H''} hn b hb => by
      refine ⟨hn b hb, by rw [eXloc, hC]; exact Nat.ne_of_lt (Nat.lt_succ_of_lt (fpLt b hb)), by rw [eXfs]; exact fpfr b hb, .inl (by rw [eXex]; exact List.mem_cons_of_mem _ hb), fun x c e => ?_, fun p hp => ?_⟩
      · rw [eXcl] at e
        exact (f2 b hb).2.2.2.2.1 x c (clF_lookup e).1
      · rw [eXpn] at hp
        have : p = (s2.heap.objs.size, o) := by simpa using hp
        rw [this]
        exact Nat.ne_of_gt (fpLt b hb)
    have pinD : ∀ {H'' : Hp} {s'' : Shared} {σ'' : St} {o : Obj}, Inv X' [] σ'' H'' s'' → s''.heap.get? s2.heap.objs.size = some o → (∀ v, o.data ≠ .cell v) → H'' s2.heap.objs.size = none → Inv X' [(s2.heap.objs.size, o)] σ'' H'' s'' := fun {H'' s'' σ'' o} J e d hn =>
      J.pins_of fun p hp => by
        have : p = (s2.heap.objs.size, o) := by simpa using hp
        rw [this]
        exact ⟨e, hn, by rw [eXloc]; exact hDC, by rw [eXfs]; exact hnofr _ (Nat.le_refl _), d⟩
    have J := pinD I' hobj (fun v => by intro z; cases z) hD'
    rw [← eP, ← ew, ← eA]
    rcases turn i n acc H' w' with ⟨stop, hz, hF⟩ | ⟨go, hz, N, hN, step⟩
    · have q1 : wpAny (model X'.prog X'.w) X'.A (pyNext (.ref it)) (fun r s1 => r = none ∧ Inv X' [(s2.heap.objs.size, { cls := .type "list", data := .seq its.toArray k })] (List.replicate xs.length none ++ σ) H' s1) (fun _ _ => False) s' := by
        have := T.done X' eP ew eK ec i _ s' _ H' (fun _ _ => False) J (fpok fr') st' stop
        rw [eP, ew]; exact this
      refine thn q1 fun r s1 h1 => ?_
      obtain ⟨hr, J1⟩ := h1
      subst hr
      have e1 := J1.pin (s2.heap.objs.size, { cls := .type "list", data := .seq its.toArray k }) (List.mem_append_right _ List.mem_cons_self)
      -- back to the block around
      have un : Un (frs X.stack) (s2.heap.objs.size :: fp) H H' H3 s1.heap := by
        have := J1.base
        rw [eXfs, eXex, hH0, hs0] at this
        exact this
      have hok1 : HOk X.prog X.w H' s1.heap := by have := J1.hok; rw [eP, ew] at this; exact this
      obtain ⟨mC, hmC, _⟩ := J1.loc
      have hmC' : s1.heap.Ns H3.objs.size mC := by rw [eXloc] at hmC; exact hmC
      have hCfree : H' H3.objs.size = none := by have := J1.free; rw [eXloc] at this; exact this
      refine fin _ _ s1 acc H' ⟨mC, hmC'⟩ ?_ hF e1.2.1 ?_
      · refine I.fpOk (by rw [hC]; exact Nat.le_succ _) ?_
        rw [upd_ne (Ne.symm hDC)]
        exact hCfree
      · refine I.call' (ch := fp) (J1.os.trans hos) ?_ (hok1.adopt e1.2.1 hz rv e1.1) J1.bare fun b hb => ⟨(f2 b hb).2.2.2.1, (f2 b hb).2.1, (f2 b hb).2.2.2.2.1, (f2 b hb).2.2.2.2.2⟩
        have below : ∀ b o, s2.heap.get? b = some o → b ≠ s2.heap.objs.size := fun b o e => Nat.ne_of_lt (Heap.lt_size e)
        have nin : ∀ b o, s2.heap.get? b = some o → b ∉ fp → b ∉ s2.heap.objs.size :: fp := fun b o e hb z => (List.mem_cons.mp z).elim (below b o e) hb
        have trkne : ∀ b u, H b = some u → b ≠ s2.heap.objs.size := fun b u e z => by rw [z, hDn] at e; cases e
        refine ⟨fun b o e n hf hb => un.keep b o (old3 b o e) n hf (nin b o e hb), fun b o e n hf hb => un.slot b o (old3 b o e) n hf (nin b o e hb), fun b o e n hb => ?_, fun b o e hb => un.there b o (old3 b o e) (nin b o e hb), fun b ys e => ?_, fun b o u e => ?_, fun b ps e => ?_⟩
        · rw [upd_ne (below b o e)]; exact un.free b o (old3 b o e) n (nin b o e hb)
        · rw [upd_ne (trkne b _ e)]; exact un.tups b ys e
        · rw [upd_ne (trkne b _ e)]; exact un.frzs b o u e
        · rw [upd_ne (trkne b _ e)]; exact un.tbls b ps e
    · have q1 := T.item X' eP ew eK ec i _ s' _ H' (fun _ _ => False) J (fpok fr') st' go
      rw [← eP, ← ew] at q1
      have q2 := q1
      refine thn q2 fun r s1 h1 => ?_
      obtain ⟨u, hr, h4⟩ := h1
      subst hr
      dsimp only
      refine thn h4 fun _ s5 ⟨x, H5, J5, r5, y5, st5, fr5⟩ => ?_
      have J5' := J5.pinned (fpok fr5) (T.obj _ _ st5)
      have q5 := hg' _ s5 _ H5 x u _ J5' r5 (step x H5 y5)
      rw [exe] at q5
      refine thn q5 fun _ s6 ⟨σ6, H6, J6, hσ, q6⟩ => ?_
      have q7 := ht' _ s6 σ6 H6 _ J6 q6
      rw [exe] at q7
      refine thn q7 fun ok s7 ⟨H7, J7, q7⟩ => ?_
      -- the state behind a turn
      have lenσ : ∀ {H8 : Hp} {s8 : Shared} {pl : List (Addr × Obj)}, Inv X' pl σ6 H8 s8 → (List.replicate xs.length none ++ σ).length = σ6.length := fun {H8 s8 pl} J8 => J6.len.symm ▸ I4.len
      have weak : ∀ {H8 : Hp} {s8 : Shared} {pl : List (Addr × Obj)}, Inv X' pl σ6 H8 s8 → Inv X' pl (List.replicate xs.length none ++ σ) H8 s8 := fun {H8 s8 pl} J8 => by
        refine J8.weak (lenσ J8) fun j v e => ?_
        by_cases hj : j < xs.length
        · rw [List.getElem?_append_left (by simpa using hj), List.getElem?_replicate, if_pos hj] at e
          cases e
        · have hj' : xs.length ≤ j := Nat.le_of_not_lt hj
          rw [List.getElem?_append_right (by simpa using hj'), List.length_replicate, ← hσ, List.getElem?_drop] at e
          rw [← e]
          congr 1
          omega
      have back : ∀ {H8 : Hp} {s8 : Shared}, Inv X' ([(s2.heap.objs.size, { cls := .type "list", data := .seq its.toArray k })] ++ pinsAt fp s5.heap) σ6 H8 s8 →
          Inv X' [] (List.replicate xs.length none ++ σ) H8 s8 ∧ tn (i + 1) s8.heap ∧ (∀ b ∈ fp, H8 b = none) ∧ H8 s2.heap.objs.size = none ∧ s8.heap.get? s2.heap.objs.size = some { cls := .type "list", data := .seq its.toArray k } := fun {H8 s8} J8 => by
        have eD := J8.pin (s2.heap.objs.size, { cls := .type "list", data := .seq its.toArray k }) (List.mem_append_right _ (List.mem_append_left _ List.mem_cons_self))
        refine ⟨(weak J8).pins_of fun p hp => absurd hp (by simp), T.keep _ _ _ st5 fun b hb o e => (J8.pin (b, o) (List.mem_append_right _ (List.mem_append_right _ (mem_pinsAt hb e)))).1, fun b hb => ?_, eD.2.1, eD.1⟩
        obtain ⟨o, e, d⟩ := T.obj _ _ st5 b hb
        exact (J8.pin (b, o) (List.mem_append_right _ (List.mem_append_right _ (mem_pinsAt hb e)))).2.1
      cases ok with
      | false =>
        simp only [Bool.false_eq_true, if_false] at q7 ⊢
        obtain ⟨m', hm, w7⟩ := hN _ _ q7
        obtain ⟨a1, a2, a3, a4, a5⟩ := back J7
        exact ⟨m', hm, i + 1, acc, its, k, H7, a1, a2, a3, a4, rv, a5, w7⟩
      | true =>
        simp only [if_true] at q7 ⊢
        have q8 := he' _ s7 σ6 H7 _ J7 q7
        rw [exe] at q8
        refine thn q8 fun u8 s8 ⟨y, H8, J8, r8, q9⟩ => ?_
        obtain ⟨m', hm, w8⟩ := hN _ _ q9
        obtain ⟨a1, a2, a3, a4, a5⟩ := back J8
        have hits : its.length = acc.length := rv.length.symm
        refine wpAny_list_append_plain (hsz := by show its.toArray.size ≤ sizeLine; rw [List.size_toArray, hits]; exact Nat.le_of_lt hz) ⟨k, a5⟩ fun h9 hl9 hs9 => ?_
        obtain ⟨k9, e9⟩ := hl9
        refine ⟨m', hm, i + 1, acc ++ [y], its ++ [u8], k9, H8, ?_, ?_, a3, a4, rv.append (.cons r8 .nil), ?_, w8⟩
        · exact a1.turned (t' := s8.toks) (fun b o hb e => hs9.extBut b o hb e) a4 (by rw [eXloc]; exact hDC) (.inl (by rw [eXex]; exact List.mem_cons_self)) (fun x c e => by rw [eXcl] at e; exact hnocell _ (Nat.le_refl _) x c (clF_lookup e).1) (fun p hp => by rw [eXpn] at hp; simp at hp)
        · exact T.keep _ _ _ a2 fun b hb o e => hs9.extBut b o (Nat.ne_of_lt (fpLt b hb)) e
        · rw [e9]
          congr 2
          simp
  rw [show { newEnv sc H3.objs.size X.env.globals (clF X.env.cells sc.names []) X.env.qual none .none (some X.env) builtinsNs with scope := relabel sc X.env } = X'.env from envE.symm]
  exact codeAny_compStart_list (loop _ rfl) (T.self X.A 0 _ _ _ st1 (loop _ rfl))
end
end L2

namespace L2
open PySem PySem.Spec PyProof.Rows

/-- [elt for tg in iter if ..]: W the word by the turn, a measure, and what is gathered -/
noncomputable def LCW (n : Nat) (J : It) (g : TG) (tc : TT) (te : TE) (σ : St) (H1 : Hp) (F : List V → Hp → Prop) : Prop :=
  ∃ W : Nat → Nat → List V → Hp → Prop, (∃ m, W 0 m [] H1) ∧ ∀ i m acc H, W i m acc H → (J.stop i H ∧ acc.length ≤ sizeLine ∧ F acc H) ∨
    (J.go i H ∧ acc.length < sizeLine ∧ ∃ N : List V → Hp → Prop, (∀ acc' H', N acc' H' → ∃ m', m' < m ∧ W (i + 1) m' acc' H') ∧ ∀ x H', J.yld i H x H' → g x (List.replicate n none ++ σ) H' fun σ2 H2 => σ2.drop n = σ ∧ tc σ2 H2 fun c H3 =>
      if c = true then te σ2 H3 fun y H4 => N (acc ++ [y]) H4 else N acc H3)
noncomputable def tLC (n : Nat) (wi : TI) (g : TG) (tc : TT) (te : TE) : TE := fun σ H Q => wi σ H fun J H1 => LCW n J g tc te σ H1 fun acc H => ∀ p, H p = none → Q (.ref p) (upd H p (.lst acc))

section
variable {X : Cx} {tg iter elt : Expr} {ifs : List Expr} {sc : Scope} {pos : Pos} {xs : List Str} {wi : TI} {g : TG} {tc : TT} {te : TE}
theorem FpOk.turn {pins : List (Addr × Obj)} {σ : St} {H : Hp} {s : Shared} {C : Addr} {h' : Heap} (f : FpOk X pins H C) (I : Inv X pins σ H s) (hs : Heap.SameBut C s.heap h') : Inv X pins σ H { s with heap := h' } :=
  I.turned (t' := s.toks) (fun b o hb e => hs.extBut b o hb e) f.1 f.2.1 f.2.2.2.1 f.2.2.2.2.1 f.2.2.2.2.2
theorem pe_comp (S : CScope X xs sc) (hc : X.calm = true) (hi : PI X tg iter wi) (hg : ∀ ex s3 H3, PG (cxC X xs sc ex s3 H3) tg g) (ht : ∀ ex s3 H3, PTs (cxC X xs sc ex s3 H3) ifs tc) (he : ∀ ex s3 H3, PE (cxC X xs sc ex s3 H3) elt te)
    (hs : ∀ x, foldedSetIterable iter X.env x = pure x := by intro _; rfl) : PE X (.ListComp elt [⟨tg, iter, ifs, 0⟩] sc pos) (tLC xs.length wi g tc te) := by
  intro pins s σ H Q I h
  rw [eval_ListComp]
  refine wpAny_comprehension_free (use := none) rfl hs (closure_eq (S.cells I.ok)) S.kind S.names (thn (hi pins s σ H _ I h) fun v s1 h1 => thn h1 fun itv s2 h2 => ?_)
  obtain ⟨it, fp, tn, J, H2, e, I2, T, st2, f2, W, w0, turn⟩ := h2
  subst e
  refine comp_core (RR := fun acc C => compPost (model X.prog X.w) X.A X.xe none (EP X pins σ Q) acc C) S hc hg ht he I2 T st2 f2 W w0 _ turn fun D C s' acc H' hns fC hF hD IF => ?_
  obtain ⟨m, hm⟩ := hns
  exact ⟨m, hm, fun h' hs' => ⟨.ref D, _, fC.turn IF hs', rfl, hF D hD⟩⟩
/-- x = [..], the name stored ahead of the block's own names let go -/
theorem ps_comp {i : Nat} {y : Str} {pos' spos : Pos} (S : CScope X xs sc) (hc : X.calm = true) (hN : X.N.Nodup) (hy : X.N[i]? = some y) (hk : X.env.scope.names.lookup y = some .local)
    (hi : PI X tg iter wi) (hg : ∀ ex s3 H3, PG (cxC X xs sc ex s3 H3) tg g) (ht : ∀ ex s3 H3, PTs (cxC X xs sc ex s3 H3) ifs tc) (he : ∀ ex s3 H3, PE (cxC X xs sc ex s3 H3) elt te)
    (hsw : swapsWith (.ListComp elt [⟨tg, iter, ifs, 0⟩] sc pos) (some (.Name y pos')) spos.line X.env = pure true := by rfl)
    (hs : ∀ x, foldedSetIterable iter X.env x = pure x := by intro _; rfl) : PS X (.Assign [.Name y pos'] (.ListComp elt [⟨tg, iter, ifs, 0⟩] sc pos) spos) (tAsg (tLC xs.length wi g tc te) (gName i)) := by
  intro pins s σ H D I h
  rw [exec_Assign_Name_used _ _ _ _ hsw]
  refine wpAny_bind (wpAny_standAt (wpAny_bind ?_))
  show wpAny _ X.A (do let _ ← comprehension (.ListComp elt [⟨tg, iter, ifs, 0⟩] sc pos) sc X.env _ (newList []) false (eval iter X.env) (some (assign (.Name y pos') X.env))) _ _ s
  refine wpAny_bind (wpAny_mono (wpAny_comprehension_free (use := some (assign (.Name y pos') X.env)) (Q := fun _ s' => SP X pins D .next s') rfl hs (closure_eq (S.cells I.ok)) S.kind S.names
    (thn (hi pins s σ H _ I h) fun v s1 h1 => thn h1 fun itv s2 h2 => ?_)) (fun _ s' hq => wpAny_pure (wpAny_pure hq)) fun _ _ e => e)
  obtain ⟨it, fp, tn, J, H2, e, I2, T, st2, f2, W, w0, turn⟩ := h2
  subst e
  refine comp_core (RR := fun acc C => compPost (model X.prog X.w) X.A X.xe (some (assign (.Name y pos') X.env)) (fun _ s' => SP X pins D .next s') acc C) S hc hg ht he I2 T st2 f2 W w0 _ turn fun D' C s' acc H' hns fC hF hD IF => ?_
  obtain ⟨m, hm⟩ := hns
  refine wpAny_assign_Name (store_ok2 (v := .ref D') IF hN hy (.inl hk) rfl (fun s'' I'' hsb => ?_) (.inr hk))
  obtain ⟨a, hsb, ha⟩ := hsb
  have hne : C ≠ a := by
    rcases ha with z | z
    · rw [z]; exact fC.2.1
    · exact fun q => fC.2.2.2.2.1 y a z q.symm
  refine ⟨m, hm.sameBut hsb hne, fun h' hs' => ⟨_, _, fC.turn I'' hs', hF D' hD⟩⟩
end

/-! ### the forms one uses -/
theorem lc_list {K : PySem.W.Frag} {a : Addr} {xs : List V} {n : Nat} {g : TG} {tc : TT} {te : TE} {σ : St} {H : Hp} {F : List V → Hp → Prop} (Pv : Nat → List V → Hp → Prop) (hn : xs.length ≤ 1000000) (h0 : Pv 0 [] H)
    (hl : ∀ i acc H, i ≤ xs.length → Pv i acc H → SqL K H a xs ∧ acc.length ≤ i)
    (hs : ∀ i x acc H, xs[i]? = some x → Pv i acc H → g x (List.replicate n none ++ σ) H fun σ2 H2 => σ2.drop n = σ ∧ tc σ2 H2 fun c H3 => if c = true then te σ2 H3 fun y H4 => Pv (i + 1) (acc ++ [y]) H4 else Pv (i + 1) acc H3)
    (hd : ∀ acc H, Pv xs.length acc H → F acc H) : LCW n (Itl K a) g tc te σ H F := by
  have sz : (1000000 : Nat) < sizeLine := by rw [sizeLine_eq]; decide
  refine ⟨fun i m acc H => m = xs.length - i ∧ i ≤ xs.length ∧ Pv i acc H, ⟨xs.length, by simp, Nat.zero_le _, h0⟩, ?_⟩
  rintro i m acc H ⟨rfl, hi, p⟩
  have q := hl i acc H hi p
  by_cases hlt : i < xs.length
  · refine .inr ⟨⟨xs, xs[i], q.1, by simp [hlt]⟩, by omega, Pv (i + 1), fun acc' H' p' => ⟨xs.length - (i + 1), by omega, rfl, hlt, p'⟩, fun x H' y => ?_⟩
    obtain ⟨e, y⟩ := y
    subst e
    exact hs i x acc _ (y xs q.1) p
  · have e : i = xs.length := by omega
    subst e
    exact .inl ⟨⟨xs, q.1, Nat.le_refl _⟩, by omega, hd acc H p⟩
theorem lc_range {lo : Int} {k : Nat} {n : Nat} {g : TG} {tc : TT} {te : TE} {σ : St} {H : Hp} {F : List V → Hp → Prop} (Pv : Nat → List V → Hp → Prop) (hn : k ≤ 1000000) (h0 : Pv 0 [] H)
    (hl : ∀ i acc H, i ≤ k → Pv i acc H → acc.length ≤ i)
    (hs : ∀ i acc H, i < k → Pv i acc H → g (.int (lo + i)) (List.replicate n none ++ σ) H fun σ2 H2 => σ2.drop n = σ ∧ tc σ2 H2 fun c H3 => if c = true then te σ2 H3 fun y H4 => Pv (i + 1) (acc ++ [y]) H4 else Pv (i + 1) acc H3)
    (hd : ∀ acc H, Pv k acc H → F acc H) : LCW n (Itr lo k) g tc te σ H F := by
  have sz : (1000000 : Nat) < sizeLine := by rw [sizeLine_eq]; decide
  refine ⟨fun i m acc H => m = k - i ∧ i ≤ k ∧ Pv i acc H, ⟨k, by simp, Nat.zero_le _, h0⟩, ?_⟩
  rintro i m acc H ⟨rfl, hi, p⟩
  have q := hl i acc H hi p
  by_cases hlt : i < k
  · refine .inr ⟨hlt, by omega, Pv (i + 1), fun acc' H' p' => ⟨k - (i + 1), by omega, rfl, hlt, p'⟩, fun x H' y => ?_⟩
    obtain ⟨e, y⟩ := y
    subst e y
    exact hs i acc _ hlt p
  · have e : i = k := by omega
    subst e
    exact .inl ⟨Nat.le_refl _, by omega, hd acc H p⟩
end L2

namespace L2
open PySem PySem.Spec PyProof.Rows

section
variable {prog : Program} {w : World} {A : Around} {E : Value → Shared → Prop} {s : Shared}
end

section
variable {X : Cx} {pos : Pos}
/-- isinstance(x, T), T a built-in type -/
theorem call_isinst : CallR X (.builtin "isinstance") (fun xs H Q => ∃ x n t b, xs = [x, .ty n] ∧ TyOf X.K H x t ∧ PySem.W.kitOne X.K t (.type n) = some b ∧ Q (.bl b) H) := by
  intro pins s σ H xs us Q I r h
  obtain ⟨x, n, t, b, rfl, ty, e, q⟩ := h
  obtain ⟨u, v, rfl, rx, ry⟩ := vals2 r
  obtain rfl : v = Value.type n := ry
  exact isinst_ok I rx ty e fun tk => ⟨.bl b, H, I.tok tk, rfl, q⟩
/-- n.bit_length() -/
theorem mt_bitlen : MtR X "int.bit_length" (fun x xs H Q => ∃ i, x = .int i ∧ xs = [] ∧ Q (.int ((Builtin.Int.intBits i : Nat) : Int)) H) := by
  intro pins s σ H x xs v us Q I rx rs h
  obtain ⟨i, rfl, rfl, q⟩ := h
  obtain ⟨t, rfl⟩ := rx
  cases rs
  exact call_int_bit_length ⟨.int _, H, I.tok _, ⟨_, rfl⟩, q⟩
end
end L2

namespace L2
open PySem PySem.Spec PyProof.Rows

/-! ### small words -/
theorem Same.new {H : Hp} {p : Addr} {o : HO} (h : H p = none) : Same H (upd H p o) := fun b u e => by rw [upd_ne (ne_of_none e h)]; exact e
theorem nat_of {x : Int} {n : Nat} (h0 : 0 ≤ x) (h1 : x < (n : Int)) : ∃ r : Nat, x = (r : Int) ∧ r < n := ⟨x.toNat, by omega, by omega⟩
/-! ### sets as naturals -/
theorem bitAnd_nat (a b : Nat) : Builtin.bitAnd (a : Int) (b : Int) = ((a &&& b : Nat) : Int) := by
  simp [Builtin.bitAnd]
theorem bitNot_not (x : Int) : Builtin.bitNot (Builtin.bitNot x) = x := by unfold Builtin.bitNot; omega
theorem bitOr_nat (a b : Nat) : Builtin.bitOr (a : Int) (b : Int) = ((a ||| b : Nat) : Int) := by
  have ha : ¬ 0 ≤ Builtin.bitNot (a : Int) := by unfold Builtin.bitNot; omega
  have hb : ¬ 0 ≤ Builtin.bitNot (b : Int) := by unfold Builtin.bitNot; omega
  unfold Builtin.bitOr
  simp only [Builtin.bitAnd, ha, hb, decide_false, bitNot_not, Int.toNat_natCast]
theorem two_pow_int (k : Nat) : ((2 : Int) ^ k) = ((2 ^ k : Nat) : Int) := by simp
end L2

namespace L2
open PySem PySem.Spec PyProof.Rows
/-- what is asked of a comprehension's scope, reckoned -/
noncomputable def cscB (N xs : List Str) (osc sc : Scope) : Bool :=
  decide (sc.kind = .function) && sc.names.all (fun y => decide (y.2 ≠ .cell)) && sc.names.all (fun y => decide (y.2 ≠ .local) || decide (sc.names.lookup y.1 = some .local)) && xs.all (fun x => decide (sc.names.lookup x = some .local)) &&
    N.all (fun y => decide (sc.names.lookup y ≠ some .local)) && sc.names.all (fun y => decide (y.2 ≠ .free) || (decide (osc.names.lookup y.1 = some .cell) || decide (osc.names.lookup y.1 = some .free))) && decide ((xs ++ N).Nodup)
theorem cs {X : Cx} {xs : List Str} {sc : Scope} (N : List Str) (osc : Scope) (hN : X.N = N) (ho : X.env.scope = osc) (h : cscB N xs osc sc = true) : CScope X xs sc := by
  unfold cscB at h
  simp only [Bool.and_eq_true, List.all_eq_true, decide_eq_true_eq, Bool.or_eq_true] at h
  obtain ⟨⟨⟨⟨⟨⟨h1, h2⟩, h3⟩, h4⟩, h5⟩, h6⟩, h7⟩ := h
  refine ⟨h1, h2, fun y hy e => ?_, h4, by rw [hN]; exact h5, fun y hy e => ?_, by rw [hN]; exact h7⟩
  · rcases h3 y hy with z | z
    · exact absurd e z
    · exact z
  · rcases h6 y hy with z | z
    · exact absurd e z
    · show X.env.scope.names.lookup y.1 = _ ∨ X.env.scope.names.lookup y.1 = _
      rw [ho]; exact z
end L2

namespace L2
open PySem PySem.Spec PyProof.Rows
theorem mod_lo (x : Int) {m : Int} (h : 0 < m) : 0 ≤ x % m := Int.emod_nonneg _ (by omega)
theorem mod_hi (x : Int) {m : Int} (h : 0 < m) : x % m < m := Int.emod_lt_of_pos _ h
/-! ### columns of a set, as naturals -/
noncomputable def vN (k : Nat) : V := V.int (k : Int)
noncomputable def hasB (a k : Nat) : Bool := decide (a / 2 ^ k % 2 = 1)
noncomputable def bitsN (a : Nat) : Nat := Builtin.Int.intBits (a : Int)
noncomputable def colsN (a : Nat) : List Nat := (List.range (bitsN a)).filter (hasB a)
theorem bitsN_le {a : Nat} (h : a < 2 ^ 20) : bitsN a ≤ 20 := by
  unfold bitsN Builtin.Int.intBits
  split
  · omega
  · rename_i z
    have h0 : a ≠ 0 := by intro e; subst e; exact z rfl
    have : a.log2 < 20 := (Nat.log2_lt h0).mpr h
    show (a : Int).natAbs.log2 + 1 ≤ 20
    rw [Int.natAbs_natCast]
    omega
theorem dec_nat (a b : Nat) : decide (V.int (a : Int) = V.int (b : Int)) = decide (a = b) := by
  rw [dec_int, Bool.eq_iff_iff, beq_iff_eq, decide_eq_true_iff]
  exact Int.ofNat_inj
noncomputable def spHas : Sp := fun vs H Q _ => ∃ a k : Nat, vs = [vN a, vN k] ∧ Q (.bl (hasB a k)) H
noncomputable def spCols : Sp := fun vs H Q _ => ∃ a : Nat, vs = [vN a] ∧ a < 2 ^ 20 ∧ ∀ p, H p = none → Q (.ref p) (upd H p (.lst ((colsN a).map vN)))
theorem has_eq (a k : Nat) : decide (V.int (Builtin.bitAnd ((a : Int) / 2 ^ (k : Int).toNat) 1) = V.int 1) = hasB a k := by
  have e : ((a : Int) / 2 ^ (k : Int).toNat) = ((a / 2 ^ k : Nat) : Int) := by
    rw [Int.toNat_natCast, two_pow_int]; omega
  rw [e, show (1 : Int) = ((1 : Nat) : Int) from rfl, bitAnd_nat, dec_nat, Nat.and_one_is_mod]
  rfl
theorem filt_succ (p : Nat → Bool) (i : Nat) : (List.range (i + 1)).filter p = (List.range i).filter p ++ (if p i = true then [i] else []) := by
  rw [List.range_succ, List.filter_append]
  congr 1
  cases h : p i <;> simp [h]
end L2

namespace L2
open PySem PySem.Spec PyProof.Rows
/-! ### the rules that speak of the written part, with it told (in a comprehension's block it stands under a binder) -/
section
variable {X : Cx} {K : PySem.W.Frag}
theorem ix_listK (h : X.K = K) : IxR X (rIxL K) := h ▸ ix_list
theorem call_lenK (h : X.K = K) : CallR X (.builtin "len") (fun xs H Q => ∃ p ys, xs = [.ref p] ∧ (SqL K H p ys ∨ SqT K H p ys) ∧ Q (.int ys.length) H) := h ▸ call_len_seq
theorem call_isK (h : X.K = K) : CallR X (.builtin "isinstance") (fun xs H Q => ∃ x n t b, xs = [x, .ty n] ∧ TyOf K H x t ∧ PySem.W.kitOne K t (.type n) = some b ∧ Q (.bl b) H) := h ▸ call_isinst
theorem call_listK (h : X.K = K) : CallR X (.type "list") (fun xs H Q => ∃ p ys, xs = [.ref p] ∧ (SqL K H p ys ∨ SqT K H p ys) ∧ ∀ l, H l = none → Q (.ref l) (upd H l (.lst ys))) := h ▸ call_list_of
theorem pi_listK {tg l : Expr} {tl : TE} (h : X.K = K) (hl : PE X l tl) : PI X tg l (iList K tl) := h ▸ pi_list hl
end
end L2

namespace L2
open PySem PySem.Spec PyProof.Rows
/-! ### arithmetic of naturals -/
noncomputable def rN (C : Nat → Nat → Prop) (g : Nat → Nat → V) : R2 := fun x y H Q => ∃ i j : Nat, x = vN i ∧ y = vN j ∧ C i j ∧ Q (g i j) H
noncomputable def rN0 (g : Nat → Nat → V) : R2 := fun x y H Q => ∃ i j : Nat, x = vN i ∧ y = vN j ∧ Q (g i j) H
section
variable {X : Cx}
theorem OpR.mono {f : Value → Value → Sem Value} {r r' : R2} (h : OpR X f r) (k : ∀ x y H Q, r' x y H Q → r x y H Q) : OpR X f r' := fun pins s σ H x y v u Q I rx ry q => h pins s σ H x y v u Q I rx ry (k x y H Q q)
theorem op_addN : OpR X (binaryOp .Add) (rN0 fun i j => vN (i + j)) := op_add.mono fun x y H Q ⟨i, j, h1, h2, q⟩ => ⟨i, j, h1, h2, by show Q (V.int ((i : Int) + j)) H; rw [← Int.natCast_add]; exact q⟩
theorem op_mulN : OpR X (binaryOp .Mult) (rN (fun i _ => i < 2 ^ 64) fun i j => vN (i * j)) := op_mul.mono fun x y H Q ⟨i, j, h1, h2, h, q⟩ => ⟨i, j, h1, h2, .inl ⟨by omega, by omega⟩, by show Q (V.int ((i : Int) * j)) H; rw [← Int.natCast_mul]; exact q⟩
theorem op_modN' : OpR X (binaryOp .Mod) (rN (fun _ j => 0 < j) fun i j => vN (i % j)) := op_mod.mono fun x y H Q ⟨i, j, h1, h2, h, q⟩ => ⟨i, j, h1, h2, by omega, by show Q (V.int ((i : Int) % j)) H; rw [← Int.natCast_emod]; exact q⟩
theorem op_fdivN' : OpR X (binaryOp .FloorDiv) (rN (fun _ j => 0 < j ∧ j < 1073741824) fun i j => vN (i / j)) := op_fdiv.mono fun x y H Q ⟨i, j, h1, h2, h, q⟩ => ⟨i, j, h1, h2, ⟨by omega, by omega⟩, by show Q (V.int ((i : Int) / j)) H; rw [← Int.natCast_ediv]; exact q⟩
theorem op_shlN : OpR X (binaryOp .LShift) (rN (fun i j => j ≤ 1000 ∧ i < 2 ^ 64) fun i j => vN (i * 2 ^ j)) := op_shl.mono fun x y H Q ⟨i, j, h1, h2, h, q⟩ => ⟨i, j, h1, h2, ⟨by omega, by omega, by rw [Int.natAbs_natCast]; exact h.2⟩, by
  show Q (V.int ((i : Int) * 2 ^ (j : Int).toNat)) H
  rw [Int.toNat_natCast, two_pow_int, ← Int.natCast_mul]; exact q⟩
/-- 1 << j -/
theorem op_shl1 : OpR X (binaryOp .LShift) (fun x y H Q => ∃ j : Nat, x = .int 1 ∧ y = vN j ∧ j ≤ 1000 ∧ Q (vN (2 ^ j)) H) := op_shlN.mono fun x y H Q ⟨j, h1, h2, h, q⟩ => ⟨1, j, h1, h2, ⟨h, by decide⟩, by show Q (vN (1 * 2 ^ j)) H; rw [Nat.one_mul]; exact q⟩
theorem op_shrN : OpR X (binaryOp .RShift) (rN0 fun i j => vN (i / 2 ^ j)) := op_shr.mono fun x y H Q ⟨i, j, h1, h2, q⟩ => ⟨i, j, h1, h2, by omega, by
  show Q (V.int ((i : Int) / 2 ^ (j : Int).toNat)) H
  rw [Int.toNat_natCast, two_pow_int, ← Int.natCast_ediv]; exact q⟩
theorem op_andN : OpR X (binaryOp .BitAnd) (rN0 fun i j => vN (i &&& j)) := op_and.mono fun x y H Q ⟨i, j, h1, h2, q⟩ => ⟨i, j, h1, h2, by show Q (V.int (Builtin.bitAnd (i : Int) j)) H; rw [bitAnd_nat]; exact q⟩
theorem op_orN : OpR X (binaryOp .BitOr) (rN0 fun i j => vN (i ||| j)) := op_or.mono fun x y H Q ⟨i, j, h1, h2, q⟩ => ⟨i, j, h1, h2, by show Q (V.int (Builtin.bitOr (i : Int) j)) H; rw [bitOr_nat]; exact q⟩
theorem op_eqN : OpR X (compareOp .Eq) (rN0 fun i j => .bl (decide (i = j))) := op_eq.mono fun x y H Q ⟨i, j, h1, h2, q⟩ => by
  subst h1 h2
  refine ⟨rfl, ?_⟩
  show Q (V.bl (decide (V.int (i : Int) = V.int (j : Int)))) H
  rw [dec_nat]; exact q
theorem op_neN : OpR X (compareOp .NotEq) (rN0 fun i j => .bl (!decide (i = j))) := op_ne.mono fun x y H Q ⟨i, j, h1, h2, q⟩ => by
  subst h1 h2
  refine ⟨rfl, ?_⟩
  show Q (V.bl (!decide (V.int (i : Int) = V.int (j : Int)))) H
  rw [dec_nat]; exact q
theorem dlt (i j : Nat) : decide ((i : Int) < (j : Int)) = decide (i < j) := by rw [decide_eq_decide]; omega
theorem dle (i j : Nat) : decide ((i : Int) ≤ (j : Int)) = decide (i ≤ j) := by rw [decide_eq_decide]; omega
theorem op_ltN : OpR X (compareOp .Lt) (rN0 fun i j => .bl (decide (i < j))) := op_lt.mono fun x y H Q ⟨i, j, h1, h2, q⟩ => ⟨i, j, h1, h2, by show Q (V.bl (decide ((i : Int) < j))) H; rw [dlt]; exact q⟩
theorem op_leN : OpR X (compareOp .LtE) (rN0 fun i j => .bl (decide (i ≤ j))) := op_le.mono fun x y H Q ⟨i, j, h1, h2, q⟩ => ⟨i, j, h1, h2, by show Q (V.bl (decide ((i : Int) ≤ j))) H; rw [dle]; exact q⟩
theorem op_gtN : OpR X (compareOp .Gt) (rN0 fun i j => .bl (decide (j < i))) := op_gt.mono fun x y H Q ⟨i, j, h1, h2, q⟩ => ⟨i, j, h1, h2, by show Q (V.bl (decide ((j : Int) < i))) H; rw [dlt]; exact q⟩
end
/-- a range from nought, its numbers as naturals -/
theorem lc_rangeN {k : Nat} {n : Nat} {g : TG} {tc : TT} {te : TE} {σ : St} {H : Hp} {F : List V → Hp → Prop} (Pv : Nat → List V → Hp → Prop) (hn : k ≤ 1000000) (h0 : Pv 0 [] H)
    (hl : ∀ i acc H, i ≤ k → Pv i acc H → acc.length ≤ i)
    (hs : ∀ i acc H, i < k → Pv i acc H → g (vN i) (List.replicate n none ++ σ) H fun σ2 H2 => σ2.drop n = σ ∧ tc σ2 H2 fun c H3 => if c = true then te σ2 H3 fun y H4 => Pv (i + 1) (acc ++ [y]) H4 else Pv (i + 1) acc H3)
    (hd : ∀ acc H, Pv k acc H → F acc H) : LCW n (Itr 0 k) g tc te σ H F :=
  lc_range Pv hn h0 hl (fun i acc H hi p => by rw [Int.zero_add]; exact hs i acc H hi p) hd
theorem for_rangeN {n : Nat} {g : TG} {tb : TS} {D : Ends} {σ : St} {H : Hp} (Pv : Nat → St → Hp → Prop) (h0 : Pv 0 σ H)
    (hs : ∀ i σ H, i < n → Pv i σ H → g (vN i) σ H fun σ2 H2 => tb { D with nx := Pv (i + 1), ct := Pv (i + 1), bk := D.nx } σ2 H2) (hd : ∀ σ H, Pv n σ H → D.nx σ H) :
    ∃ W : Nat → Nat → St → Hp → Prop, (∃ m, W 0 m σ H) ∧ ∀ i m σ H, W i m σ H →
      ((Itr 0 n).stop i H ∧ D.nx σ H) ∨ ((Itr 0 n).go i H ∧ ∃ N : St → Hp → Prop, (∀ σ' H', N σ' H' → ∃ m', m' < m ∧ W (i + 1) m' σ' H') ∧ ∀ x H', (Itr 0 n).yld i H x H' → g x σ H' fun σ2 H2 => tb { D with nx := N, ct := N, bk := D.nx } σ2 H2) :=
  for_range (lo := 0) Pv h0 (fun i σ H hi p => by rw [Int.zero_add]; exact hs i σ H hi p) hd
end L2

namespace L2
open PySem PySem.Spec PyProof.Rows
/-! ### insert, index, sorted; a name let go -/
section
variable {X : Cx} {K : PySem.W.Frag}
/-- a method call, the written part told -/
theorem pe_bmK {o e : Expr} {es : List Expr} {to : TE} {t : TA} {name : Str} {apos cpos : Pos} {T id : String} {r : V → List V → Hp → VK → Prop} (hK : X.K = K) (pa : PlainAttrs T) (slot : Slot T name id) (hty : typeOf (.builtin id) = pure (.type "method_descriptor")) (hm : MtR X id r) (ho : PE X o to) (ha : PA X (e :: es) t)
    (hbase : attributeBase o name X.env (eval o X.env) = eval o X.env := by rfl)
    (hfew : ((backTo cpos (starEach (e :: es) X.env)).all (fun x => !x.1) && (backToKw cpos (keywordEach [] X.env)).all (fun x => x.1.isSome)
      && decide ((e :: es).length + ([] : List Keyword).length + (if ([] : List Keyword).isEmpty then 0 else 1) < 30)) = true := by rfl)
    (hline : (apos.endLine == cpos.line) = true := by rfl) (hs : starEach (e :: es) X.env = (false, eval e X.env) :: starEach es X.env := by rfl) (hplain : (backTo cpos (starEach es X.env)).any (·.1) = false := by rfl) :
    PE X (.Call (.Attribute o name apos) (e :: es) [] cpos) (tBM K T r to t) := hK ▸ pe_bm pa slot hty hm ho ha hbase hfew hline hs hplain
end
/-! ### the law's script and its place, the script frozen: lists of one's own stand apart from it -/
noncomputable def SqF (K : PySem.W.Frag) (H : Hp) (a : Addr) (ns : List Int) : Prop := (∃ o, H a = some (.frz o (.lst (ns.map V.int)))) ∨
  ∃ (o : Obj) (its : Array Value) (n : Nat), K.lookup a = some o ∧ o.cls = .type "list" ∧ o.dict = none ∧ o.data = .seq its n ∧ its.size ≤ sizeLine ∧ Vals (ns.map V.int) its.toList
theorem SqF.sq {K : PySem.W.Frag} {H : Hp} {a : Addr} {ns : List Int} (h : SqF K H a ns) : SqL K H a (ns.map V.int) := by
  rcases h with ⟨o, h⟩ | h
  · exact .inl (.inr ⟨o, h⟩)
  · exact .inr h
theorem SqF.of {K : PySem.W.Frag} {H : Hp} {a : Addr} {ns : List Int} (hO : Only H) (h : SqL K H a (ns.map V.int)) : SqF K H a ns := by
  rcases h with (h | ⟨o, h⟩) | h
  · rcases hO a with z | ⟨o, xs, z⟩
    · rw [h] at z; cases z
    · rw [h] at z; cases z
  · exact .inl ⟨o, h⟩
  · exact .inr h
end L2

namespace L2
open PySem PySem.Spec PyProof.Rows
/-! ### ints compared, truths compared, tuples compared, all -/
section
variable {X : Cx} {K : PySem.W.Frag}
end
end L2

namespace L2
open PySem PySem.Spec PyProof.Rows
/-! ### two tuples walked side by side -/
section
variable {prog : Program} {w : World} {A : Around} {E : Value → Shared → Prop} {s : Shared}
end
/-! ### .. as the layer walks it -/
section
variable {X : Cx} {pins : List (Addr × Obj)} {σ : St} {H : Hp} {s : Shared}
end
end L2

namespace L2
open PySem PySem.Spec PyProof.Rows
/-! ### rows of a book in the heap -/
/-! ### what the program says of rows -/
end L2

namespace L2
open PySem PySem.Spec PyProof.Rows

/-! ### lists of pairs as tables -/
section
variable {κ : Type} [DecidableEq κ]
end


/-! ### a tracked dict, its keys ints and texts or tuples of these -/
section
variable {P : Program} {w : World} {H : Hp} {h : Heap} {a : Addr}
end

section
variable {X : Cx} {pins : List (Addr × Obj)} {σ : St} {H : Hp} {s : Shared} {a : Addr} {y v : V} {u r : Value} {o : Option V} {A : Around} {E : Value → Shared → Prop}

end

section
variable {X : Cx} {pins : List (Addr × Obj)} {σ : St} {H : Hp} {s : Shared} {a : Addr} {kvs : List (Key × V)} {k : Key} {u : Value} {A : Around} {E : Value → Shared → Prop}
end


/-! ### readings and rules -/
section
variable {X : Cx} {o i e value : Expr} {pos pos' tpos : Pos} {td ty tv : TE}
end


/-! ### displays -/
section
variable {X : Cx} {pos : Pos}
end

/-! ### methods -/
section
variable {X : Cx} {pins : List (Addr × Obj)} {σ : St} {H : Hp} {s : Shared} {a : Addr} {y d : V} {u r : Value} {o : Option V} {A : Around} {E : Value → Shared → Prop}
end

section
variable {X : Cx} {o e f : Expr} {apos cpos : Pos} {td ty tx : TE}
end

/-! ### dict(d): a copy -/
section
variable {X : Cx} {pins : List (Addr × Obj)} {σ : St} {H : Hp} {s : Shared} {a : Addr} {kvs : List (Key × V)} {A : Around} {E : Value → Shared → Prop}
end


section
variable {X : Cx} {pins : List (Addr × Obj)} {σ : St} {H : Hp} {s : Shared} {a : Addr} {y : V} {u : Value} {A : Around} {E : Value → Shared → Prop}
end
end L2

namespace L2
open PySem PySem.Spec PyProof.Rows
/-! ### d.setdefault(k, x), the keys tuples -/
section
variable {prog : Program} {w : World} {A : Around} {E : Value → Shared → Prop} {s : Shared} {κ : Type} [DecidableEq κ] {kd : HeapKind prog w κ}
end
section
variable {X : Cx} {o e f : Expr} {apos cpos : Pos} {td ty tx : TE}
end
end L2

namespace L2
open PySem PySem.Spec PyProof.Rows
/-! ### for v in d.values(), whatever the keys -/
section
variable {prog : Program} {w : World} {A : Around} {E : Value → Shared → Prop} {s : Shared}
end
section
variable {X : Cx} {pins : List (Addr × Obj)} {σ : St} {H : Hp} {s : Shared}
/-! ### the forms one uses -/
end
end L2

namespace L2
open PySem PySem.Spec PyProof.Rows
/-! ### dict of a list of pairs, the keys tuples -/
section
variable {prog : Program} {w : World} {A : Around} {E : Value → Shared → Prop} {s : Shared}
end
end L2

namespace L2
open PySem PySem.Spec PyProof.Rows
/-! ### dict of a list of pairs: the loop, the call -/
section
variable {X : Cx} {pins : List (Addr × Obj)} {σ : St} {H : Hp}
end
end L2

namespace L2
open PySem PySem.Spec PyProof.Rows
/-! ### (x,) * n -/
end L2

namespace L2
open PySem PySem.Spec PyProof.Rows
/-! ### books: rows with their places, groups of rows -/
/-! ### what a group is -/
end L2

namespace L2
open PySem PySem.Spec PyProof.Rows
/-! ### the promises of the program's own defs about books -/
end L2

namespace L2
open PySem PySem.Spec PyProof.Rows
/-! ### rows alike and mixed: the mathematics -/
/-! ### the promises -/
end L2

namespace L2
open PySem PySem.Spec PyProof.Rows
/-! ### the book of a set -/
end L2

namespace L2
open PySem PySem.Spec PyProof.Rows
/-! ### tuples in lists, lists of lists compared -/
section
variable {X : Cx} {K : PySem.W.Frag} {pins : List (Addr × Obj)} {σ : St} {H : Hp} {s : Shared}
end
end L2

namespace L2
open PySem PySem.Spec PyProof.Rows
/-! ### k11: what two rows show -/
end L2

namespace L2
open PySem PySem.Spec PyProof.Rows
/-! ### paths joined -/
section
variable {X : Cx} {st : Stmt} {rest : List Stmt} {t u : TS}
end
/-! ### truths told one by one -/
end L2

namespace L2
open PySem PySem.Spec PyProof.Rows
/-! ### for i, x in enumerate(a list) -/
section
variable {X : Cx} {pins : List (Addr × Obj)} {σ : St} {H : Hp} {s : Shared}
end
end L2

namespace L2
open PySem PySem.Spec PyProof.Rows
/-! ### == and != of values told as data -/
mutual
inductive DV (K : PySem.W.Frag) (H : Hp) : V → PyData → Prop
  | non : DV K H .non .none
  | bl (b : Bool) : DV K H (.bl b) (.bool b)
  | int (i : Int) : DV K H (.int i) (.int i)
  | str (x : Str) : DV K H (.str x) (.str x)
  | lst {a : Addr} {xs : List V} {ds : List PyData} : SqL K H a xs → DVs K H xs ds → DV K H (.ref a) (.list ds)
  | tup {a : Addr} {xs : List V} {ds : List PyData} : SqT K H a xs → DVs K H xs ds → DV K H (.ref a) (.tuple ds)
inductive DVs (K : PySem.W.Frag) (H : Hp) : List V → List PyData → Prop
  | nil : DVs K H [] []
  | cons {x : V} {xs : List V} {d : PyData} {ds : List PyData} : DV K H x d → DVs K H xs ds → DVs K H (x :: xs) (d :: ds)
end
section
variable {X : Cx} {K : PySem.W.Frag} {pins : List (Addr × Obj)} {σ : St} {H : Hp} {s : Shared}
mutual
theorem DV.reads (I : Inv X pins σ H s) : ∀ {v : V} {d : PyData} {u : Value}, DV X.K H v d → RelV v u → ∃ as, Reads s.heap u d as
  | _, _, _, .non, r => by obtain rfl := (show _ = Value.none from r); exact ⟨_, Reads.none⟩
  | _, _, _, .bl b, r => by obtain rfl := (show _ = Value.bool b from r); exact ⟨_, Reads.bool b⟩
  | _, _, _, .int i, r => by obtain ⟨t, rfl⟩ := r; exact ⟨_, .int i t⟩
  | _, _, _, .str x, r => by obtain ⟨t, rfl⟩ := r; exact ⟨_, .str x t⟩
  | _, _, _, .lst (a := a) hx hs, r => by
    obtain rfl := (show _ = Value.ref a from r)
    obtain ⟨its, rv, pl, _⟩ := I.list hx
    obtain ⟨as, ra⟩ := DVs.reads I hs rv
    obtain ⟨o, ho, hc, n, hd⟩ := pl.isList
    exact ⟨_, .list ho hc hd ra⟩
  | _, _, _, .tup (a := a) hx hs, r => by
    obtain rfl := (show _ = Value.ref a from r)
    obtain ⟨its, rv, pl, _⟩ := I.tuple hx
    obtain ⟨as, ra⟩ := DVs.reads I hs rv
    obtain ⟨o, ho, hc, n, hd⟩ := pl
    exact ⟨_, .tuple ho hc hd ra⟩
theorem DVs.reads (I : Inv X pins σ H s) : ∀ {vs : List V} {ds : List PyData} {us : List Value}, DVs X.K H vs ds → Vals vs us → ∃ as, ReadsAll s.heap us ds as
  | _, _, _, .nil, .nil => ⟨_, .nil⟩
  | _, _, _, .cons h hs, .cons r rs => by
    obtain ⟨as, ra⟩ := DV.reads I h r
    obtain ⟨bs, rb⟩ := DVs.reads I hs rs
    exact ⟨_, .cons ra rb⟩
end
noncomputable def rEqD (K : PySem.W.Frag) (neg : Bool) : R2 := fun x y H Q => ∃ d1 d2 : PyData, DV K H x d1 ∧ DV K H y d2 ∧ SeqAt.shaped d1 = true ∧ SeqAt.shaped d2 = true ∧ SeqAt.noMix d1 d2 = true ∧ Q (.bl (if neg then !same d1 d2 else same d1 d2)) H
theorem op_eqD (h : X.K = K) (hu : X.A.units + 64 < cLine) : OpR X (compareOp .Eq) (rEqD K false) := by
  subst h
  intro pins s σ H x y v u Q I rx ry h
  obtain ⟨d1, d2, h1, h2, s1, s2, nm, q⟩ := h
  obtain ⟨as, ra⟩ := h1.reads I rx
  obtain ⟨bs, rb⟩ := h2.reads I ry
  exact eq_dataH_same ra rb s1 s2 hu nm ⟨.bl _, H, I, rfl, q⟩
theorem op_neD (h : X.K = K) (hu : X.A.units + 64 < cLine) : OpR X (compareOp .NotEq) (rEqD K true) := by
  subst h
  intro pins s σ H x y v u Q I rx ry h
  obtain ⟨d1, d2, h1, h2, s1, s2, nm, q⟩ := h
  obtain ⟨as, ra⟩ := h1.reads I rx
  obtain ⟨bs, rb⟩ := h2.reads I ry
  exact ne_dataH_same ra rb s1 s2 hu nm ⟨.bl _, H, I, rfl, q⟩
end
/-! lists of data of one form -/
section
variable {α : Type} {f : α → PyData}
theorem sameAll_map [DecidableEq α] (h : ∀ a b, same (f a) (f b) = decide (a = b)) : ∀ xs ys : List α, sameAll (xs.map f) (ys.map f) = decide (xs = ys)
  | [], [] => by simp [sameAll]
  | [], _ :: _ => by simp [sameAll]
  | _ :: _, [] => by simp [sameAll]
  | x :: xs, y :: ys => by
    simp only [List.map_cons, sameAll, h, sameAll_map h xs ys]
    by_cases e : x = y <;> simp [e]
theorem noMixAll_map (h : ∀ a b, SeqAt.noMix (f a) (f b) = true) : ∀ xs ys : List α, SeqAt.noMixAll (xs.map f) (ys.map f) = true
  | [], [] => by simp [SeqAt.noMixAll]
  | [], _ :: _ => by simp [SeqAt.noMixAll]
  | _ :: _, [] => by simp [SeqAt.noMixAll]
  | x :: xs, y :: ys => by simp [SeqAt.noMixAll, h, noMixAll_map h xs ys]
theorem depthAll_map {n : Nat} (h : ∀ a, PyData.depth (f a) ≤ n) : ∀ xs : List α, PyData.depthAll (xs.map f) ≤ n
  | [] => by simp [PyData.depthAll]
  | x :: xs => by
    have h1 := h x
    have h2 := depthAll_map h xs
    simp only [List.map_cons, PyData.depthAll]
    omega
end
/-! xs[::-1] -/
section
variable {X : Cx} {K : PySem.W.Frag} {e : Expr} {te : TE} {ste : Expr} {tst : TO} {pos p2 : Pos}
end
/-! slices told in naturals -/
end L2

namespace L2
open PySem PySem.Spec PyProof.Rows
theorem Same.none {H H' : Hp} {p : Addr} (e : Same H H') (h : H' p = none) : H p = none := by
  cases z : H p with
  | none => rfl
  | some o => rw [e _ _ z] at h; cases h
/-! ### stage 2's laws: what their shared defs promise -/
end L2

namespace L2
/-! ### why a draw by 48271 comes to a multiple of four -/
end L2

namespace L2
/-! ### the mathematics of unfolding -/
theorem pow7 {m : Nat} (h : m ≤ 7) : 2 ^ m ≤ 128 := Nat.pow_le_pow_right (by decide) h
/-! uses, in their order -/
/-! a run -/
/-! the parts drawn by k20's law -/
/-! every column is fixed or in a block -/
/-! a set whose book keeps the rules stays within one block -/
end L2

namespace L2
open PySem PySem.Spec PyProof.Rows
/-! ### what is not in a set, min, an object of one's own written -/
section
variable {X : Cx} {K : PySem.W.Frag}
/-- an item that is written out (the rest of the list stays shut) -/
theorem pa_consC {c : Const} {k : Nat} {pos : Pos} {es : List Expr} {te : TE} {t : TA} (ha : PE X (.Constant c k pos) te) (hr : PA X es t) : PA X (.Constant c k pos :: es) (tCons te t) := pa_cons ha hr rfl
end
/-! ### what the unfolding's defs promise -/
/-! data -/
theorem same_list {α : Type} [DecidableEq α] {f : α → PyData} (h : ∀ a b, same (f a) (f b) = decide (a = b)) (xs ys : List α) : same (.list (xs.map f)) (.list (ys.map f)) = decide (xs = ys) := by
  simp only [same]
  exact sameAll_map h xs ys
theorem noMix_list {α : Type} {f : α → PyData} (h : ∀ a b, SeqAt.noMix (f a) (f b) = true) (xs ys : List α) : SeqAt.noMix (.list (xs.map f)) (.list (ys.map f)) = true := by
  simp only [SeqAt.noMix]
  exact noMixAll_map h xs ys
end L2

namespace L2
open PySem PySem.Spec PyProof.Rows
/-! ### an unfolding under way, in the heap -/
end L2

namespace L2
open PySem PySem.Spec PyProof.Rows
/-! ### what follows -/
section
variable {X : Cx} {K : PySem.W.Frag}
end
end L2

namespace L2
/-! ### the settled columns, found by books of two rows -/
open PySem PySem.Spec PyProof.Rows
end L2

namespace L2
/-! ### what follows, told by the sets whose books keep the rules -/
noncomputable def HasB (a k : Nat) : Prop := a.testBit k = true
theorem bit_of_ne {a : Nat} (h : a ≠ 0) : ∃ k, HasB a k := by
  by_cases z : ∃ k, HasB a k
  · exact z
  · exfalso
    apply h
    refine Nat.eq_of_testBit_eq fun k => ?_
    rw [Nat.zero_testBit]
    cases e : a.testBit k with
    | false => rfl
    | true => exact absurd ⟨k, e⟩ z
theorem hasb_lt {m a k : Nat} (ha : a < 2 ^ m) (h : HasB a k) : k < m := by
  apply Nat.lt_of_not_le
  intro le
  have : a.testBit k = false := Nat.testBit_lt_two_pow (Nat.lt_of_lt_of_le ha (Nat.pow_le_pow_right (by decide) le))
  unfold HasB at h
  rw [this] at h; cases h
end L2
namespace L2
/-! ### the rules of following -/
section
variable {m : Nat} {rs : List RD} {x y z v : Nat}
end
open PySem PySem.Spec PyProof.Rows
end L2

namespace L2
/-! ### which sets are blocks; more rules -/
end L2
namespace L2
open PySem PySem.Spec PyProof.Rows
end L2

namespace L2
/-! ### covers -/
open PySem PySem.Spec PyProof.Rows
theorem cols_has : ∀ a, a < 128 → ∀ k, k < 8 → (k ∈ colsN a ↔ a.testBit k = true) := by decide +kernel
theorem cols_mem {a : Nat} (ha : a < 128) (k : Nat) : k ∈ colsN a ↔ HasB a k := by
  by_cases hk : k < 8
  · exact cols_has a ha k hk
  · constructor
    · intro h
      have h1 := List.mem_range.mp (List.mem_filter.mp h).1
      have h2 : bitsN a ≤ 7 := by
        unfold bitsN Builtin.Int.intBits
        split
        · omega
        · rename_i z
          have h0 : a ≠ 0 := by intro e; subst e; exact z rfl
          have : a.log2 < 7 := (Nat.log2_lt h0).mpr ha
          show (a : Int).natAbs.log2 + 1 ≤ 7
          rw [Int.natAbs_natCast]
          omega
      omega
    · intro h
      have := hasb_lt (m := 7) ha h
      omega
end L2

namespace L2
open PySem PySem.Spec PyProof.Rows
end L2

namespace L2
open PySem PySem.Spec PyProof.Rows
/-! ### sorted(.., reverse=True) of what stands so already: one run, of any length -/
section
variable {prog : Program} {w : World} {A : Around} {E : Value → Shared → Prop} {s : Shared} {a₀ : Array Keyed} {κ : KeyKind}
end
section
variable {X : Cx} {K : PySem.W.Frag}
end
end L2

namespace L2
open PySem PySem.Spec PyProof.Rows
/-! ### a rule in a list of rules; covers say the same (k42) -/
section
variable {X : Cx} {K : PySem.W.Frag}
end
end L2

namespace L2
/-! ### any steps lead to the same blocks -/
open PySem PySem.Spec PyProof.Rows
end L2

namespace L2
open PySem PySem.Spec PyProof.Rows
/-! ### all blocks at once -/
/-! ### covers, rule by rule -/
end L2

namespace L2
open PySem PySem.Spec PyProof.Rows
/-! ### two lists walked side by side -/
section
variable {X : Cx} {pins : List (Addr × Obj)} {σ : St} {H : Hp} {s : Shared}
end
end L2

namespace L2
open PySem PySem.Spec PyProof.Rows
/-! ### covers told exactly -/
end L2

namespace L2
open PySem PySem.Spec PyProof.Rows
end L2

namespace L2
open PySem PySem.Spec PyProof.Rows
/-! ### the laws of cuts: their rules and parts; a cut in two -/
section
variable {K : PySem.W.Frag} {H H1 H2 : Hp} {st g p : Addr} {ns : List Int} {m k k' : Nat} {rs rs' : List Rl} {o : HO} {ys : List V}
end
theorem bits_eq {a b : Nat} (h : ∀ k, HasB a k ↔ HasB b k) : a = b := Nat.eq_of_testBit_eq fun k => by
  rw [Bool.eq_iff_iff]; exact h k
end L2

namespace L2
open PySem PySem.Spec PyProof.Rows
/-! ### exceptions: how one lies behind a call, a def that raises, a def that lets one through -/
theorem ho_there {P : Program} {w : World} {H : Hp} {h : Heap} {a : Addr} {o : HO} (x : ObjOk P w H h a o) : ∃ ob, h.get? a = some ob := by
  cases o with
  | lst xs => obtain ⟨_, _, _, _, e⟩ := x; exact ⟨_, e⟩
  | tup xs => obtain ⟨_, _, _, ob, e, _⟩ := x; exact ⟨_, e⟩
  | dK kvs => obtain ⟨_, _, _, _, o, _, _, e, _⟩ := x; exact ⟨_, e⟩
  | dT kvs => obtain ⟨_, _, _, _, o, _, _, e, _⟩ := x; exact ⟨_, e⟩
  | set S n => obtain ⟨o, _, _, _, e, _⟩ := x; exact ⟨_, e⟩
  | ins C dx fs => obtain ⟨_, _, _, e, _⟩ := x; exact ⟨_, e⟩
  | own y => exact x
  | xd fs => obtain ⟨_, ⟨_, _, _, e, _⟩, _⟩ := x; exact ⟨_, e⟩
  | rng lo hi => obtain ⟨_, _, _, e⟩ := x; exact ⟨_, e⟩
  | frz ob u => exact ⟨_, x.1⟩
  | tbl ps => exact ⟨_, x⟩
  | met f y => exact ⟨_, x⟩
  | ext φ => exact x.2.1
/-- an exception under way: ea of the class at C; B is what stays as it is, all that is tracked in it -/
structure Fly (P : Program) (w : World) (outer : List Env) (H H' : Hp) (s s' : Shared) (ea C : Addr) (B : Heap) : Prop where
  os : s'.os = s.os
  bare : AllBare s'.gens
  un : Un (frs outer) [] H H' s.heap s'.heap
  hok : HOk P w H' B
  inB : ∀ b o, s.heap.get? b = some o → H b = none → b ∉ frs outer → B.get? b = some o
  ex : ∀ b o, s.heap.get? b = some o → b ∉ frs outer → ∃ o', B.get? b = some o'
  fly : ∃ a0, Heap.FlyingW B outer ea (.ref C) a0 s'.heap
theorem Fly.fresh {P : Program} {w : World} {outer : List Env} {H H' : Hp} {s s' : Shared} {ea C : Addr} {B : Heap} (F : Fly P w outer H H' s s' ea C B) : H' ea = none := by
  obtain ⟨a0, f⟩ := F.fly
  cases q : H' ea with
  | none => rfl
  | some o =>
    obtain ⟨ob, e⟩ := ho_there (F.hok ea o q)
    rw [f.2.1] at e
    cases e
noncomputable def CX1 (P : Program) (w : World) : CXT := fun outer H s E e s' => ∃ ea C B H', e = .ref ea ∧ Fly P w outer H H' s s' ea C B ∧ E (.ref C) none H'
section
variable {P : Program} {w : World} {K : PySem.W.Frag} {mg : Str → Option Value} {base : Heap} {N : List Str} {qual : Str} {scope : Scope} {f : Addr} {cd : Value} {A : Around} {outer : List Env} {s₀ : Shared} {H₀ : Hp} {E E' : XK}
theorem frs_cons {env : Env} {L : Addr} {l : List Env} (h : env.frame = some L) : frs (env :: l) = L :: frs l := by
  unfold frs
  rw [List.filterMap_cons, h]
/-- a def that raises -/
theorem raise_out {pins : List (Addr × Obj)} {σ : St} {H : Hp} {s : Shared} {h' : Heap} {e C : Addr} {vs : List Value} (I : Inv (cxOf (CX1 P w) P w K mg base N qual scope f cd A outer s₀ H₀ E) pins σ H s)
    (hx : Heap.MadeExcOf s.heap h' e (.ref C) vs) (hE : E (.ref C) none H) : (cxOf (CX1 P w) P w K mg base N qual scope f cd A outer s₀ H₀ E).xe (.ref e) { s with heap := h' } := by
  have hf : (envOfC qual scope s₀.heap.objs.size f cd).frame = some s₀.heap.objs.size := rfl
  have hfr : (A.deeper (envOfC qual scope s₀.heap.objs.size f cd)).frames = some (envOfC qual scope s₀.heap.objs.size f cd :: outer) := I.ok.frames
  have hst : s.heap.FunFrames base (envOfC qual scope s₀.heap.objs.size f cd :: outer) := I.stack
  have hl := PySem.W.funFrames_hide (as := frs (envOfC qual scope s₀.heap.objs.size f cd :: outer)) hst fun env he b hb => List.mem_filterMap.mpr ⟨env, he, hb⟩
  have nin : ∀ b o, s₀.heap.get? b = some o → b ∉ frs outer → b ∉ frs (envOfC qual scope s₀.heap.objs.size f cd :: outer) := fun b o q hb hm => by
    rw [frs_cons hf] at hm
    rcases List.mem_cons.mp hm with z | z
    · exact absurd (Heap.lt_size q) (by rw [z]; exact Nat.lt_irrefl _)
    · exact hb z
  refine wpAny_leaves_madeW (s := { s with heap := h' }) hfr hf (fun b o q => PySem.W.of_hideAll _ q) hl hx fun h2 t x1 x2 x3 x4 => ?_
  have base0 : Un (frs outer) [] H₀ H s₀.heap s.heap := I.base
  have slot : ∀ b o, s₀.heap.get? b = some o → H₀ b = none → b ∈ frs outer → ∃ sl, h2.get? b = some { o with slots := sl } := fun b o q n hb => by
    obtain ⟨sl, e1⟩ := base0.slot b o q n hb (by simp)
    obtain ⟨_, o', e2, hd⟩ := I.ok.funs.mem hb
    have q' : s₀.heap.get? b = some o' := e2
    rw [q] at q'
    cases q'
    obtain ⟨sl', e3⟩ := x4 b _ (hx.keeps _ _ e1) hd
    exact ⟨sl', e3⟩
  refine ⟨e, C, _, H, rfl, ⟨I.os, I.bare, ⟨fun b o q n hb hx' => ?_, fun b o q n hb _ => slot b o q n hb, base0.free, fun b o q hx' => ?_, base0.tups, base0.frzs, base0.tbls⟩, fun a o q => ?_, fun b o q n hb => ?_, fun b o q hb => ?_, ⟨_, x1⟩⟩, hE⟩
  · exact x1.1 b o (PySem.W.hideAll_get _ (base0.keep b o q n hb hx') (nin b o q hb))
  · by_cases hb : b ∈ frs outer
    · obtain ⟨sl, e1⟩ := slot b o q (I.ok.frf b hb) hb
      exact ⟨_, e1⟩
    · obtain ⟨o', e1⟩ := base0.there b o q hx'
      exact ⟨o', x1.1 _ _ (PySem.W.hideAll_get _ e1 (nin b o q hb))⟩
  · have nfr : ∀ b u, H b = some u → b ∉ frs (envOfC qual scope s₀.heap.objs.size f cd :: outer) := fun b u z hm => by
      have := I.stkFree b hm
      rw [z] at this
      cases this
    refine (I.hok a o q).stay (fun b u hb z => PySem.W.hideAll_get _ z ?_) (fun _ z => z) fun _ _ z => z
    rcases hb with rfl | hb
    · exact nfr _ _ q
    · exact nfr _ _ hb
  · exact PySem.W.hideAll_get _ (base0.keep b o q n hb (by simp)) (nin b o q hb)
  · obtain ⟨o', e1⟩ := base0.there b o q (by simp)
    exact ⟨o', PySem.W.hideAll_get _ e1 (nin b o q hb)⟩
/-- behind the exception, over the heap that a call began with -/
theorem Fly.over {X : Cx} {pins : List (Addr × Obj)} {σ : St} {H H' : Hp} {s s' : Shared} {ea C : Addr} {B h2 : Heap} (I : Inv X pins σ H s) (F : Fly X.prog X.w X.stack H H' s s' ea C B) (k1 : ∀ b o, B.get? b = some o → h2.get? b = some o) (k2 : s'.heap.UpToSlots h2) :
    Un (frs X.stack) [] H H' s.heap h2 := by
  have slot : ∀ b o, s.heap.get? b = some o → H b = none → b ∈ frs X.stack → ∃ sl, h2.get? b = some { o with slots := sl } := fun b o q n hb => by
    obtain ⟨sl, e1⟩ := F.un.slot b o q n hb (by simp)
    obtain ⟨_, o', e2, hd⟩ := I.stack.mem hb
    rw [q] at e2
    cases e2
    obtain ⟨sl', e3⟩ := k2 b _ e1 hd
    exact ⟨sl', e3⟩
  refine ⟨fun b o q n hb _ => k1 _ _ (F.inB b o q n hb), fun b o q n hb _ => slot b o q n hb, F.un.free, fun b o q _ => ?_, F.un.tups, F.un.frzs, F.un.tbls⟩
  by_cases hb : b ∈ frs X.stack
  · obtain ⟨sl, e1⟩ := slot b o q (I.stkFree b hb) hb
    exact ⟨_, e1⟩
  · obtain ⟨o', e1⟩ := F.ex b o q hb
    exact ⟨o', k1 _ _ e1⟩
end
end L2

namespace L2
open PySem PySem.Spec PyProof.Rows
/-! ### raise C(..), and try: f(..) except C as e: x = e -/
/-- the top's names are those that it has -/
theorem top_any {K : PySem.W.Frag} {mg : Str → Option Value} {base : Heap} (M : Mod K mg base) (p : Program) : ∃ loose mb, PySem.W.TopRead p loose mg mb base := by
  obtain ⟨mb, hb, hbb⟩ := M.blt
  obtain ⟨o, es, ep, ho, hd, hk, hf⟩ := id M.glob
  refine ⟨es.toList.filterMap fun e => match e.key with | .str x _ => some x | _ => none, mb, ⟨M.glob, hb, M.nolimit, hbb, fun x _ hx _ _ _ => ?_⟩⟩
  rw [← hf x]
  cases q : nsFind es x with
  | none => rfl
  | some v =>
    exfalso
    unfold nsFind findBy at q
    obtain ⟨e, he, _⟩ := Option.map_eq_some_iff.mp q
    have h1 := Array.mem_of_find?_eq_some he
    have h2 := Array.find?_some he
    obtain ⟨n, t, ek⟩ := hk e h1
    rw [ek] at h2
    have h3 : x = n := by
      simp only [Value.isStr] at h2
      exact (beq_iff_eq.mp h2).symm
    refine hx (List.mem_filterMap.mpr ⟨e, Array.mem_toList_iff.mpr h1, ?_⟩)
    rw [ek, h3]
/-- a class of one's own below ValueError that has no __init__ -/
structure Exc (K : PySem.W.Frag) (x : Str) (C : Addr) : Prop where
  ns : PySem.W.nsIn K mainGlobals x = some (some (.ref C))
  ex : PySem.W.excIn K C [.type "ValueError", .type "Exception", .type "BaseException", .type "object"] "ValueError.__new__" = true
section
variable {X : Cx} {x : Str} {C : Addr} {np cpos pos : Pos} {e : Expr} {es : List Expr} {t : TA} {EX : XK}
noncomputable def tRaise (EX : XK) (C : Addr) (t : TA) : TS := fun _ σ H => t σ H fun vs H1 => vs.length ≤ sizeLine ∧ EX (.ref C) none H1
theorem ps_raise (O : Exc X.K x C) (hg : Gl X x) (hc : X.calm = true) (ha : PA X (e :: es) t)
    (hout : ∀ (pins : List (Addr × Obj)) (σ : St) (H : Hp) (s : Shared) (h' : Heap) (ea : Addr) (vs : List Value), Inv X pins σ H s → Heap.MadeExcOf s.heap h' ea (.ref C) vs → EX (.ref C) none H → X.xe (.ref ea) { s with heap := h' })
    (hdb : (x == ("__debug__" : Str)) = false := by decide) (he : starEach (e :: es) X.env = (false, eval e X.env) :: starEach es X.env := by rfl) (hpl : (backTo cpos (starEach es X.env)).any (·.1) = false := by rfl) :
    PS X (.Raise (some (.Call (.Name x np) (e :: es) [] cpos)) none pos) (tRaise EX C t) := by
  intro pins s σ H D I h
  obtain ⟨loose, mb, T⟩ := top_any I.ok.mod X.prog
  have W := PySem.W.own_of_in I.ok.mod.kin T O.ns O.ex
  obtain ⟨tl, N, nm, q, bs, hdct, sn, sub, ab, col, dd, k0, k1, k2, k3, k5, mN, hC, hN, hni, TL⟩ := W.obj
  refine wpAny_Raise_call_subT (nm := nm) (q := q) (N := N) (bs := bs) (hdct := hdct) (sn := sn) (sub := sub) (ab := ab) (col := col) (dd := dd) (k0 := k0) (k1 := k1) (k2 := k2) (k3 := k3) (k5 := k5) PySem.F.excBase_ValueError (mN := mN) (TL.hasType PySem.F.excBase_ValueError.hasBase) (I.ok.hd hc) (by rw [he]; show (false || (backTo cpos (starEach es X.env)).any (·.1)) = false; rw [hpl]; rfl) hni (ld_glob I hg W.bound ⟨rfl, ?_⟩ hdb)
  have h1 := ha cpos pins s σ H _ I h
  rw [he] at h1 ⊢
  refine Calls.evalArgs_plain (thn h1 fun us s1 ⟨vs, H1, I1, r, hz, q⟩ => ⟨rfl, by rw [← r.length]; exact hz, I1.bk _ _ hC, hN.keeps I1.bk, TL.keeps I1.bk, fun h' ea hm => hout pins σ H1 s1 h' ea us I1 hm q⟩)
end
/-! f-strings of two and three parts with one whole number -/
section
variable {X : Cx} {a b : Str} {e : Expr} {te : TE} {j1 j2 : Nat} {p1 p2 p3 pos : Pos}
end
/-- THE RULE for a def that may raise -/
theorem Fun.ok1 {P : Program} {w : World} {K : PySem.W.Frag} {mg : Str → Option Value} {base : Heap} {x qual : Str} {st : Stmt} {f : Addr} {fd : FuncData} {N ps : List Str} {k : Nat} {sp : Sp} (F : Fun K x qual st f fd) (S : FnScope N ps (defScope st)) (len : ∀ vs H Q E, sp vs H Q E → vs.length = ps.length)
    (hbody : ∀ (cdv : Value) (A : Around) (outer : List Env) (s : Shared) (H : Hp) (vs : List V) (Q : VK) (E : XK), Room k (A.deeper (envOfC qual (defScope st) s.heap.objs.size f cdv)) → sp vs H Q E →
      ∃ t, PSs (cxOf (CX1 P w) P w K mg base N qual (defScope st) f cdv A outer s H E) (defBody st) t ∧ t { nx := fun _ H' => Q .non H', rt := Q } (start N vs) H) : FnOk P w K mg base (CX1 P w) (k + 1) f fd ps sp := by
  obtain ⟨oc, od, kV, doc, pm, an, cdv, ct, osl, rfl, lk, hcd⟩ := F.ex
  exact fn_of lk hcd S len fun A outer s H vs Q E hr hsp => hbody cdv A outer s H vs Q E hr hsp
end L2

namespace L2
open PySem PySem.Spec PyProof.Rows
/-! ### texts: join, split, upper, slices, !r -/
theorem strs_of : ∀ {ys : List Str} {us : List Value}, Vals (ys.map V.str) us → ∃ l : List (Str × Tok), us = strValues l ∧ l.map (·.1) = ys
  | [], _, .nil => ⟨[], rfl, rfl⟩
  | y :: ys, _, .cons r t => by
    obtain ⟨tk, rfl⟩ := r
    obtain ⟨l, rfl, e⟩ := strs_of t
    exact ⟨(y, tk) :: l, rfl, by rw [List.map_cons, e]⟩
theorem vals_strs : ∀ l : List (Str × Tok), Vals ((l.map (·.1)).map V.str) (strValues l)
  | [] => .nil
  | (y, tk) :: l => .cons ⟨tk, rfl⟩ (vals_strs l)
section
variable {X : Cx}
theorem mt_join : MtR X "str.join" (fun x xs H Q => ∃ (z : Str) (D : Addr) (ys : List Str), x = .str z ∧ xs = [.ref D] ∧ SqL X.K H D (ys.map V.str) ∧ JoinOk z ys = true ∧ Q (.str (Txt.join z ys)) H) := by
  intro pins s σ H x xs v us Q I rx rv h
  obtain ⟨z, D, ys, rfl, rfl, hD, ok, q⟩ := h
  obtain ⟨tk, rfl⟩ := rx
  obtain ⟨u, rfl, ru⟩ := rv.one
  cases ru
  obtain ⟨its, r, hl, _⟩ := I.list hD
  obtain ⟨l, rfl, e⟩ := strs_of r
  exact SC.join hl.isList e ok fun t' k => ⟨.str _, H, I.tok k, ⟨t', rfl⟩, q⟩
theorem mt_split : MtR X "str.split" (fun x xs H Q => ∃ z y : Str, x = .str z ∧ xs = [.str y] ∧ (y.length == 0) = false ∧ z.length ≤ 1000 ∧ (Txt.split z y).length ≤ 1000 ∧ ∀ D, H D = none → Q (.ref D) (upd H D (.lst ((Txt.split z y).map V.str)))) := by
  intro pins s σ H x xs v us Q I rx rv h
  obtain ⟨z, y, rfl, rfl, hy, hz, hn, q⟩ := h
  obtain ⟨tk, rfl⟩ := rx
  obtain ⟨u, rfl, ru⟩ := rv.one
  obtain ⟨tk2, rfl⟩ := ru
  have fin : ∀ (l : List (Str × Tok)) (k : Nat), l.map (·.1) = Txt.split z y → EP X pins σ Q (.ref s.heap.objs.size) { s with toks := k, heap := s.heap.push { cls := .type "list", data := .seq (strValues l).toArray } } := fun l k e => by
    refine ⟨.ref s.heap.objs.size, _, I.laid (t' := k) (o := .lst ((Txt.split z y).map V.str)) (fun b ob q => Heap.get?_push_of_some _ q) (Nat.le_refl _) ?_, rfl, q _ (I.hok.fresh (Nat.le_refl _))⟩
    refine ⟨by rw [List.length_map]; exact Nat.le_of_lt (small1000 hn), strValues l, 0, by rw [← e]; exact vals_strs l, Heap.get?_push_size _ rfl⟩
  cases h1 : (decide (z.length < y.length) || decide (Builtin.Str.strKind z < Builtin.Str.strKind y))
  · cases hf : (Builtin.Str.occurrences z y 0 z.length (z.length + 1)).isEmpty
    · have es : Txt.split z y = Builtin.Str.partsBetween z (Builtin.Str.occurrences z y 0 z.length (z.length + 1)) y.length := (if_neg (ne_true_of_eq_false h1)).trans (if_neg (ne_true_of_eq_false hf))
      refine call_meets F.slot_str_split (typeIs_str _ _ _) F.entry_str_split (F.args_str_split_2 _ _) (meets_str_split_sep z y tk tk2 h1 hy hf (Nat.le_of_lt (small1000 hz)) (by rw [← es]; exact Nat.le_of_lt (small1000 hn))) ?_
      show wants _ _ _ { s with toks := _, heap := s.heap.push { cls := .type "list", data := .seq (strsFrom s.toks (Builtin.Str.partsBetween z (Builtin.Str.occurrences z y 0 z.length (z.length + 1)) y.length)).toArray } }
      rw [strsFrom_eq]
      exact fin (numbered s.toks _) _ ((numbered_texts _ _).trans es.symm)
    · have es : Txt.split z y = [z] := (if_neg (ne_true_of_eq_false h1)).trans (if_pos hf)
      exact call_meets F.slot_str_split (typeIs_str _ _ _) F.entry_str_split (F.args_str_split_2 _ _) (meets_str_split_not_found z y tk tk2 h1 hy hf) (fin [(z, tk)] s.toks es.symm)
  · have es : Txt.split z y = [z] := if_pos h1
    exact call_meets F.slot_str_split (typeIs_str _ _ _) F.entry_str_split (F.args_str_split_2 _ _) (meets_str_split_cannot_occur z y tk tk2 h1) (fin [(z, tk)] s.toks es.symm)
theorem mt_upper : MtR X "str.upper" (fun x xs H Q => ∃ z : Str, x = .str z ∧ xs = [] ∧ Builtin.Str.tooLong (Txt.upper z).length = false ∧ Q (.str (Txt.upper z)) H) := by
  intro pins s σ H x xs v us Q I rx rv h
  obtain ⟨z, rfl, rfl, hz, q⟩ := h
  obtain ⟨tk, rfl⟩ := rx
  cases rv
  exact call_gives F.slot_str_upper (typeIs_str _ _ _) F.entry_str_upper (F.args_str_upper_1 _) (gives_str_upper z tk hz) ⟨fit_le hz, ⟨.str _, H, I.tok _, ⟨_, rfl⟩, q⟩⟩
theorem sl_str : SlR X (fun x lo hi H Q => ∃ z : Str, x = .str z ∧ z.length ≤ 1000 ∧ Q (.str (Txt.slice z lo hi)) H) := by
  intro pins s σ H x v vl vu lo hi sl Q I rx hs pl pu h
  obtain ⟨z, rfl, hz, q⟩ := h
  obtain ⟨tk, rfl⟩ := rx
  refine ⟨"str", _, F.slot_str_getitem.lookup, typeIs_str _ _ _, ?_⟩
  have fin : ∀ {l u : Option (Int × Tok)}, l.map (·.1) = lo → u.map (·.1) = hi → s.heap.IsSlice sl l u none → wpAny (model X.prog X.w) X.A (getItem (.str z tk) (.ref sl)) (EP X pins σ Q) X.xe s := fun {l u} e1 e2 h => by
    refine wpAny_getItem_str_slice h rfl (post_val_or_str ⟨?_, fun t' k => ?_⟩)
    · show (Txt.slice z (l.map (·.1)) (u.map (·.1))).length ≤ sizeLine
      exact Nat.le_trans (Txt.slice_le _ _ _) (Nat.le_of_lt (small1000 hz))
    · refine ⟨.str (Txt.slice z lo hi), H, I.tok k, ⟨t', ?_⟩, q⟩
      rw [← e1, ← e2]
      rfl
  cases pl with
  | none =>
    cases pu with
    | none => exact fin (l := none) (u := none) rfl rfl hs
    | int j tj => exact fin (l := none) (u := some (j, tj)) rfl rfl hs
  | int i ti =>
    cases pu with
    | none => exact fin (l := some (i, ti)) (u := none) rfl rfl hs
    | int j tj => exact fin (l := some (i, ti)) (u := some (j, tj)) rfl rfl hs
/-- f"{e!r}text", e a text -/
noncomputable def tFsr (te : TE) : TE := fun σ H Q => te σ H fun x H1 => ∃ z : Str, x = .str z ∧ (reprText z).length ≤ 100000 ∧ ∀ y, Q (.str y) H1
theorem pe_fsr {e : Expr} {te : TE} {b : Str} {j2 : Nat} {p2 p3 pos : Pos} (he : PE X e te) (h2 : b.length ≤ 1000 := by decide) : PE X (.JoinedStr [.FormattedValue e 114 none p2, .Constant (.str b) j2 p3] pos) (tFsr te) := by
  intro pins s σ H Q I h
  have sl : (200000 : Nat) < sizeLine := by rw [sizeLine_eq]; decide
  refine JoinedStr_many (joinParts_cons (wpAny_FormattedValue_repr (thn (he pins s σ H _ I h) fun u s1 ⟨v, H1, I1, r, z, ev, hz, q⟩ => ?_)))
  subst ev
  obtain ⟨tk, rfl⟩ := r
  refine wpAny_pyReprObj_str ?_ (by omega)
  have he2 : (Str.empty ++ reprText z).length = (reprText z).length := by rw [strLen_append]; exact Nat.zero_add _
  refine formatField_str (fun t' k => ⟨by rw [he2]; omega, ?_⟩) (by omega)
  have hz3 : (Str.empty ++ reprText z ++ b).length ≤ 101000 := by
    rw [strLen_append, he2]
    omega
  exact joinParts_cons (Calls.Constant_str ⟨by omega, joinParts_nil ⟨.str _, H1, I1.tok _, ⟨_, rfl⟩, q _⟩ (by omega)⟩)
end
end L2

namespace L2
open PySem PySem.Spec PyProof.Rows
open Builtin.Str (occurrences subAt strSub partsBetween)
open PySem.StrLaws (occBody occ_eq subAt_one occ_chain ChainTo partsFrom partsBetween_eq join_split)
/-! ### split by one sign is the other way of join -/
section
variable {x : Str} {c : Nat}
noncomputable def posF (x : Str) (c : Nat) (i : Nat) : Bool := decide (x.cps.toList[i]? = some c)
theorem occ_run : ∀ (n a : Nat) (st : Array Nat × Nat), st.2 ≤ a → st.1.size ≤ a → a + n ≤ x.length + 1 →
    (forIn (List.range' a n) st (occBody x ⟨#[c]⟩ x.length (x.length + 1))).run.fst.toList = st.1.toList ++ (List.range' a n).filter (posF x c)
  | 0, a, st, _, _, _ => by simp
  | n + 1, a, st, h1, h2, h3 => by
    rw [List.range'_succ, List.forIn_cons]
    unfold occBody
    by_cases hc : x.cps.toList[a]? = some c
    · obtain ⟨k1, k2⟩ := (subAt_one x c a).mpr hc
      rw [if_pos ⟨⟨⟨by omega, h1⟩, k1⟩, k2⟩]
      have ih := occ_run n (a + 1) (st.1.push a, a + (⟨#[c]⟩ : Str).length) (Nat.le_refl _) (by simp; omega) (by omega)
      refine Eq.trans ih ?_
      rw [List.filter_cons_of_pos (by exact decide_eq_true hc), Array.toList_push, List.append_assoc]
      rfl
    · have no : ¬ (((st.1.size < x.length + 1 ∧ st.2 ≤ a) ∧ a + (⟨#[c]⟩ : Str).length ≤ x.length) ∧ subAt x ⟨#[c]⟩ a = true) := fun z => hc ((subAt_one x c a).mp ⟨z.1.2, z.2⟩)
      rw [if_neg no]
      have ih := occ_run n (a + 1) (st.1, st.2) (by show st.2 ≤ a + 1; omega) (by show st.1.size ≤ a + 1; omega) (by omega)
      refine Eq.trans ih ?_
      rw [List.filter_cons_of_neg (by intro z; exact hc (of_decide_eq_true z))]
theorem occ_all : occurrences x ⟨#[c]⟩ 0 x.length (x.length + 1) = (List.range' 0 (x.length + 1)).filter (posF x c) := by
  rw [occ_eq]
  have := occ_run (x := x) (c := c) (x.length + 1) 0 (#[], 0) (Nat.le_refl _) (Nat.le_refl _) (by omega)
  simpa using this
theorem sub_mem {a b k : Nat} (h : k ∈ (strSub x a b).cps.toList) : ∃ i, a ≤ i ∧ i < b ∧ x.cps.toList[i]? = some k := by
  rw [StrLaws.strSub_toList] at h
  obtain ⟨j, hj⟩ := List.getElem?_of_mem h
  rw [List.getElem?_take] at hj
  split at hj
  · rw [List.getElem?_drop] at hj
    exact ⟨a + j, by omega, by omega, hj⟩
  · cases hj
theorem parts_free : ∀ {cuts : List Nat} {a f : Nat}, ChainTo x ⟨#[c]⟩ x.length a cuts f → (∀ i, a ≤ i → x.cps.toList[i]? = some c → i ∈ cuts) → ∀ p ∈ partsFrom x 1 a cuts, c ∉ p.cps.toList
  | [], a, f, _, h, p, hp => by
    rw [List.mem_singleton.mp hp]
    intro hc
    obtain ⟨i, h1, _, h3⟩ := sub_mem hc
    exact absurd (h i h1 h3) List.not_mem_nil
  | b :: r, a, f, hch, h, p, hp => by
    have low : ∀ {r : List Nat} {a f : Nat}, ChainTo x ⟨#[c]⟩ x.length a r f → ∀ i ∈ r, a ≤ i := fun {r} => by
      induction r with
      | nil => exact fun _ i hi => absurd hi List.not_mem_nil
      | cons d r ih =>
        intro a f hc i hi
        rcases List.mem_cons.mp hi with rfl | hi
        · exact hc.1
        · exact Nat.le_trans hc.1 (Nat.le_trans (Nat.le_add_right _ _) (ih hc.2.2 i hi))
    rcases List.mem_cons.mp hp with rfl | hp
    · intro hc
      obtain ⟨i, h1, h2, h3⟩ := sub_mem hc
      rcases List.mem_cons.mp (h i h1 h3) with rfl | hi
      · omega
      · have := low hch.2.2 i hi
        have e1 : (⟨#[c]⟩ : Str).length = 1 := rfl
        omega
    · refine parts_free (cuts := r) (a := b + 1) hch.2.2 (fun i h1 h3 => ?_) p hp
      rcases List.mem_cons.mp (h i (by have := hch.1; omega) h3) with rfl | hi
      · omega
      · exact hi
theorem split_free (hc : c < 256) : ∀ p ∈ Txt.split x ⟨#[c]⟩, c ∉ p.cps.toList := by
  intro p hp
  have k1 : Builtin.Str.strKind ⟨#[c]⟩ = 1 := by
    unfold Builtin.Str.strKind
    rw [if_pos (by simpa using hc)]
  have k2 : 1 ≤ Builtin.Str.strKind x := by
    unfold Builtin.Str.strKind
    split
    · exact Nat.le_refl _
    · split <;> decide
  have none : (occurrences x ⟨#[c]⟩ 0 x.length (x.length + 1)).isEmpty = true → c ∉ x.cps.toList := fun h hm => by
    obtain ⟨i, hi⟩ := List.getElem?_of_mem hm
    have hl : i < x.length := by
      have := (List.getElem?_eq_some_iff.mp hi).1
      simpa [Str.length] using this
    rw [occ_all, List.isEmpty_iff] at h
    have : i ∈ (List.range' 0 (x.length + 1)).filter (posF x c) := List.mem_filter.mpr ⟨by simp; omega, decide_eq_true hi⟩
    rw [h] at this
    exact absurd this List.not_mem_nil
  unfold Txt.split at hp
  split at hp
  · rename_i h
    rw [List.mem_singleton.mp hp]
    intro hm
    rw [Bool.or_eq_true, decide_eq_true_iff, decide_eq_true_iff] at h
    have e1 : (⟨#[c]⟩ : Str).length = 1 := rfl
    rcases h with h | h
    · obtain ⟨i, hi⟩ := List.getElem?_of_mem hm
      have := (List.getElem?_eq_some_iff.mp hi).1
      have e2 : x.cps.toList.length = x.length := by simp [Str.length]
      omega
    · omega
  · split at hp
    · rename_i h
      rw [List.mem_singleton.mp hp]
      exact none h
    · obtain ⟨f, hch⟩ := occ_chain x ⟨#[c]⟩ (x.length + 1)
      rw [partsBetween_eq] at hp
      refine parts_free (a := 0) hch (fun i _ h3 => ?_) p hp
      rw [occ_all]
      refine List.mem_filter.mpr ⟨?_, decide_eq_true h3⟩
      have := (List.getElem?_eq_some_iff.mp h3).1
      have e2 : x.cps.toList.length = x.length := by simp [Str.length]
      simp
      omega
theorem split_ne : Txt.split x ⟨#[c]⟩ ≠ [] := by
  unfold Txt.split
  split
  · exact List.cons_ne_nil _ _
  · split
    · exact List.cons_ne_nil _ _
    · rw [partsBetween_eq]
      obtain ⟨p, r, e⟩ := StrLaws.partsFrom_ne x (⟨#[c]⟩ : Str).length 0 (occurrences x ⟨#[c]⟩ 0 x.length (x.length + 1))
      rw [e]
      exact List.cons_ne_nil _ _
theorem cut_one_way : ∀ {p q A B : List Nat}, p ++ c :: A = q ++ c :: B → c ∉ p → c ∉ q → p = q ∧ A = B
  | [], [], _, _, e, _, _ => ⟨rfl, (List.cons.inj e).2⟩
  | [], b :: q, _, _, e, _, hq => absurd (by rw [(List.cons.inj e).1]; exact List.mem_cons_self ..) hq
  | a :: p, [], _, _, e, hp, _ => absurd (by rw [← (List.cons.inj e).1]; exact List.mem_cons_self ..) hp
  | a :: p, b :: q, A, B, e, hp, hq => by
    obtain ⟨e1, e2⟩ := List.cons.inj e
    obtain ⟨h1, h2⟩ := cut_one_way e2 (fun z => hp (List.mem_cons_of_mem _ z)) fun z => hq (List.mem_cons_of_mem _ z)
    exact ⟨by rw [e1, h1], h2⟩
theorem join_inj : ∀ {ps qs : List Str}, ps ≠ [] → qs ≠ [] → (∀ p ∈ ps, c ∉ p.cps.toList) → (∀ p ∈ qs, c ∉ p.cps.toList) → Str.join ⟨#[c]⟩ ps = Str.join ⟨#[c]⟩ qs → ps = qs
  | [], _, h, _, _, _, _ => absurd rfl h
  | _, [], _, h, _, _, _ => absurd rfl h
  | [p], [q], _, _, _, _, e => by
    have e : p = q := e
    rw [e]
  | [p], q :: q2 :: r, _, _, hp, _, e => by
    have e : p = q ++ ⟨#[c]⟩ ++ Str.join ⟨#[c]⟩ (q2 :: r) := e
    refine absurd ?_ (hp p (List.mem_singleton.mpr rfl))
    rw [e]
    simp [Str.cps_append]
  | p :: p2 :: r, [q], _, _, _, hq, e => by
    have e : p ++ ⟨#[c]⟩ ++ Str.join ⟨#[c]⟩ (p2 :: r) = q := e
    refine absurd ?_ (hq q (List.mem_singleton.mpr rfl))
    rw [← e]
    simp [Str.cps_append]
  | p :: p2 :: r, q :: q2 :: t, _, _, hp, hq, e => by
    have e : p ++ ⟨#[c]⟩ ++ Str.join ⟨#[c]⟩ (p2 :: r) = q ++ ⟨#[c]⟩ ++ Str.join ⟨#[c]⟩ (q2 :: t) := e
    have e2 := congrArg (fun s : Str => s.cps.toList) e
    simp only [Str.cps_append, Array.toList_append, List.append_assoc] at e2
    obtain ⟨h1, h2⟩ := cut_one_way (c := c) (p := p.cps.toList) (q := q.cps.toList) e2 (hp p (List.mem_cons_self ..)) (hq q (List.mem_cons_self ..))
    have ep : p = q := Str.ext' (Array.toList_inj.mp h1)
    have er := join_inj (List.cons_ne_nil _ _) (List.cons_ne_nil _ _) (fun x hx => hp x (List.mem_cons_of_mem _ hx)) (fun x hx => hq x (List.mem_cons_of_mem _ hx)) (Str.ext' (Array.toList_inj.mp h2))
    rw [ep, er]
theorem split_join {ps : List Str} (hc : c < 256) (h0 : ps ≠ []) (h : ∀ p ∈ ps, c ∉ p.cps.toList) : Txt.split (Str.join ⟨#[c]⟩ ps) ⟨#[c]⟩ = ps :=
  join_inj split_ne h0 (split_free hc) h (join_split _ _)
theorem join_eq (sep : Str) (ys : List Str) : Txt.join sep ys = Str.join sep ys := StrLaws.glued_eq_join sep ys
end
end L2

namespace L2
open PySem PySem.Spec PyProof.Rows
/-- a caught exception: its class -/
noncomputable def excO (ea C : Addr) : HO := .ext fun h => ∃ o vs, h.get? ea = some o ∧ o.cls = .ref C ∧ o.data = .fields vs
/-- within an except suite -/
noncomputable abbrev Cx.within (X : Cx) (ea : Addr) : Cx := { X with A := X.A.mark (some (.ref ea)), calm := false, xe := fun _ _ => False }
section
variable {X : Cx} {pins : List (Addr × Obj)} {σ : St} {H : Hp} {s : Shared} {ea : Addr}
theorem Inv.inS (I : Inv X pins σ H s) (ea : Addr) : Inv (X.within ea) pins σ H s :=
  ⟨⟨I.ok.mod, I.ok.kind, I.ok.glob, I.ok.blt, I.ok.above, I.ok.inj, I.ok.has, I.ok.cab, (fun z => by cases z), I.ok.frames, I.ok.stk, I.ok.exf, I.ok.bs, I.ok.bsz, I.ok.noex, I.ok.exfs, I.ok.funs, I.ok.frf⟩, I.os, I.bare, I.base, I.loc, I.cell, I.free, I.freeC, I.pin, I.hok, I.len⟩
theorem Inv.outS (hd : X.calm = true → X.A.handled = none) (I : Inv (X.within ea) pins σ H s) : Inv X pins σ H s :=
  ⟨⟨I.ok.mod, I.ok.kind, I.ok.glob, I.ok.blt, I.ok.above, I.ok.inj, I.ok.has, I.ok.cab, hd, I.ok.frames, I.ok.stk, I.ok.exf, I.ok.bs, I.ok.bsz, I.ok.noex, I.ok.exfs, I.ok.funs, I.ok.frf⟩, I.os, I.bare, I.base, I.loc, I.cell, I.free, I.freeC, I.pin, I.hok, I.len⟩
/-- the name behind «as» goes -/
theorem Inv.goes {M : Model} {A : Around} {E : Value → Shared → Prop} {l : Nat} {n : Str} {pos : Pos} {Q : Unit → Shared → Prop} (I : Inv X pins σ H s) (hN : X.N.Nodup) (hi : X.N[l]? = some n) (hk : X.env.kindOf n = some .local)
    (h : ∀ s', Inv X pins (σ.set l none) H s' → Q () s') : wpAny M A (do bindName X.env n .none; unbindBehindTheSuite X.env n pos) Q E s := by
  obtain ⟨m, hn, hl⟩ := id I.loc
  have hcls : (X.env.scope.kind == .class || (X.env.scope.kind == .module && X.env.locals != X.env.globals)) = false := by rw [I.ok.kind]; rfl
  obtain ⟨oL, _, _, hoL, _⟩ := id hn
  refine wpAny_nameGoes_keeps hk hn hcls fun h' v hn' hs => h _ ?_
  have ne0 : ∀ b o, X.s₀.heap.get? b = some o → b ≠ X.env.locals := fun b o e => Nat.ne_of_lt (Nat.lt_of_lt_of_le (Heap.lt_size e) I.ok.above)
  have same : ∀ b o, b ≠ X.env.locals → s.heap.get? b = some o → h'.get? b = some o := fun b o ne e => (hs.2 b ne).trans e
  refine ⟨I.ok, I.os, I.bare, ⟨fun b o e n' hb hx => same b o (ne0 b o e) (I.base.keep b o e n' hb hx), fun b o e n' hb hx => ?_, I.base.free, fun b o e hx => ?_, I.base.tups, I.base.frzs, I.base.tbls⟩, ⟨_, hn', fun j y v' e1 e2 e3 => ?_⟩, fun y c e => ?_, I.free, I.freeC, fun p hp => ?_, fun b ob e => ?_, by simpa using I.len⟩
  · obtain ⟨sl, e1⟩ := I.base.slot b o e n' hb hx
    exact ⟨sl, same b _ (ne0 b o e) e1⟩
  · obtain ⟨o', e1⟩ := I.base.there b o e hx
    exact ⟨o', same b o' (ne0 b o e) e1⟩
  · have hj : j ≠ l := fun z => by
      subst z
      rw [List.getElem?_set] at e2
      simp at e2
    rw [List.getElem?_set_ne (Ne.symm hj)] at e2
    obtain ⟨u', r', q⟩ := hl j y v' e1 e2 e3
    refine ⟨u', r', ?_⟩
    rcases q with ⟨k, e⟩ | ⟨k, c, e, z⟩
    · refine .inl ⟨k, ?_⟩
      have : y ≠ n := fun e => hj (nodup_ix hN e1 (e ▸ hi))
      simp [this, e]
    · exact .inr ⟨k, c, e, z.sameBut hs (I.cne y c e)⟩
  · obtain ⟨w', z⟩ := I.cell y c e
    exact ⟨w', z.sameBut hs (I.cne y c e)⟩
  · obtain ⟨e, n', ne, nf, d⟩ := I.pin p hp
    exact ⟨same _ _ ne e, n', ne, nf, d⟩
  · refine (I.hok b ob e).stay (fun c w' hc q => same c w' ?_ q) (fun _ q => q) fun _ _ q => q
    rintro rfl
    rcases hc with rfl | hc
    · rw [I.free] at e; cases e
    · rw [I.free] at hc; cases hc
/-- where an exception has landed -/
theorem Fly.landed {H' : Hp} {s' : Shared} {C : Addr} {B h2 : Heap} (I : Inv X pins σ H s) (F : Fly X.prog X.w X.stack H H' s s' ea C B) {a0 : Value} (f : Heap.FlyingW B X.stack ea (.ref C) a0 h2) (k2 : s'.heap.UpToSlots h2) :
    Inv X pins σ (upd H' ea (excO ea C)) { s' with heap := h2 } := by
  have u := F.over I f.1 k2
  have hn := F.fresh
  obtain ⟨oe, vs, hoe, hoc, hod, _⟩ := f.first
  have nfr : ea ∉ frs X.stack := fun hm => by
    obtain ⟨_, o, ho, hd⟩ := f.2.2.1.mem hm
    rw [hoe] at ho
    cases ho
    exact hd vs hod
  have nes : ∀ b o, s.heap.get? b = some o → H b = none → b ≠ ea := fun b o e n z => by
    subst z
    have := F.inB b o e n nfr
    rw [f.2.1] at this
    cases this
  refine I.call' (ch := []) (s' := { s' with heap := h2 }) F.os ⟨u.keep, u.slot, fun b o e n hx => ?_, u.there, fun b xs e => ?_, fun b o xs e => ?_, fun b ps e => ?_⟩ (fun b ob e => ?_) F.bare fun b hb => absurd hb (by simp)
  · rw [upd_ne (nes b o e n)]
    exact u.free b o e n hx
  · have := u.tups b xs e
    rw [upd_ne (ne_of_none this hn)]
    exact this
  · have := u.frzs b o xs e
    rw [upd_ne (ne_of_none this hn)]
    exact this
  · obtain ⟨more, h3⟩ := u.tbls b ps e
    exact ⟨more, by rw [upd_ne (ne_of_none h3 hn)]; exact h3⟩
  · by_cases z : b = ea
    · subst z
      rw [upd_same] at e
      cases e
      exact ⟨⟨oe, vs, hoe, hoc, hod⟩, ⟨oe, hoe⟩, fun h1 h2' ⟨o, vs', h3, h4, h5⟩ k => ⟨o, vs', k o h3, h4, h5⟩⟩
    · rw [upd_ne z] at e
      exact ((F.hok.kept f.1) b ob e).stay (fun _ _ _ q => q) (fun c q => by rw [upd_ne (ne_of_none q hn)]; exact q) fun c xs q => by rw [upd_ne (ne_of_none q hn)]; exact q
end
/-- the body of a try -/
noncomputable def PTry (X : Cx) (st : List Stmt) (t : (St → Hp → Prop) → (St → XK) → St → Hp → Prop) : Prop :=
  ∀ (pins : List (Addr × Obj)) (s : Shared) (σ : St) (H : Hp) (N : St → Hp → Prop) (E : St → XK), Inv X pins σ H s → t N E σ H →
    wpAny (model X.prog X.w) X.A (execs st X.env) (fun f s1 => f = .next ∧ ∃ σ' H', Inv X pins σ' H' s1 ∧ N σ' H') (fun e s' => ∃ σ' H1 s1, Inv X pins σ' H1 s1 ∧ CX1 X.prog X.w X.stack H1 s1 (E σ') e s') s
section
variable {X : Cx} {k : Nat} {f : Addr} {fd : FuncData} {ps : List Str} {sp : Sp} {x y : Str} {p yp ap pos : Pos} {e : Expr} {es : List Expr} {t : TA} {i : Nat}
theorem try_call (F : FnOk X.prog X.w X.K X.mg X.base (CX1 X.prog X.w) k f fd ps sp) (hr : Room k X.A) (hg : Gl X x) (hm : X.mg x = some (.ref f)) (hk : PySem.W.keepIn X.K (.ref f) = true) (hb : Binds X.K fd ps [])
    (ha : ∀ E', PA (X.wish E') (e :: es) t) (hdb : (x == ("__debug__" : Str)) = false) (he : starEach (e :: es) X.env = (false, eval e X.env) :: starEach es X.env) (hpl : (backTo pos (starEach es X.env)).any (·.1) = false)
    {pins : List (Addr × Obj)} {s : Shared} {σ : St} {H : Hp} {Q : VK} {E : XK} (I : Inv X pins σ H s) (h : t σ H fun vs H1 => sp vs H1 Q E) :
    wpAny (model X.prog X.w) X.A (eval (.Call (.Name x p) (e :: es) [] pos) X.env) (EP X pins σ Q) (fun e s' => ∃ σ' H1 s1, σ' = σ ∧ Inv X pins σ' H1 s1 ∧ CX1 X.prog X.w X.stack H1 s1 E e s') s := by
  refine wpAny_Call_Name_kw (ld_glob I hg hm ?_ hdb)
  refine PySem.W.callWith_K (h₀ := X.base) I.ok.mod.kin hk (thn (ha (fun e s' => ∃ σ' H1 s1, σ' = σ ∧ Inv X pins σ' H1 s1 ∧ CX1 X.prog X.w X.stack H1 s1 E e s') pos pins s σ H _ (I.wish _) h) fun us s1 ⟨vs, H1, I1, r, q⟩ => ⟨I1.unwish.kIn, ?_⟩) he hpl
  have I1 := I1.unwish
  have hl : (us ++ []).length = ps.length := by rw [List.append_nil, ← r.length]; exact F.len _ _ _ _ q
  have hb2 := hb s1 us I1.kIn hl
  rw [List.append_nil] at hb2
  refine wpAny_call (codeAny_mono (F.run X.A X.stack s1 H1 ⟨us, []⟩ us vs Q E hr I1.env0 hb2 r q) fun r s' hq => ?_)
  cases r with
  | error e => exact ⟨σ, H1, s1, rfl, I1, hq⟩
  | ok fl =>
    cases fl with
    | ret u => exact I1.after hq
    | next => exact False.elim hq
    | brk => exact False.elim hq
    | cont => exact False.elim hq
theorem pt_expr (F : FnOk X.prog X.w X.K X.mg X.base (CX1 X.prog X.w) k f fd ps sp) (hr : Room k X.A) (hg : Gl X x) (hm : X.mg x = some (.ref f)) (hk : PySem.W.keepIn X.K (.ref f) = true) (hb : Binds X.K fd ps [])
    (ha : ∀ E', PA (X.wish E') (e :: es) t) (hdb : (x == ("__debug__" : Str)) = false := by decide) (he : starEach (e :: es) X.env = (false, eval e X.env) :: starEach es X.env := by rfl) (hpl : (backTo pos (starEach es X.env)).any (·.1) = false := by rfl)
    (hs : swapsWith (.Call (.Name x p) (e :: es) [] pos) none ap.line X.env = pure false := by rfl) :
    PTry X [.Expr (.Call (.Name x p) (e :: es) [] pos) ap] (fun N E σ H => t σ H fun vs H1 => sp vs H1 (fun _ H2 => N σ H2) (E σ)) := by
  intro pins s σ H N E I h
  refine wpAny_execs_cons (wpAny_Expr_any (wpAny_mono (try_call F hr hg hm hk hb ha hdb he hpl I h) (fun v s1 ⟨z, H1, I1, r1, q1⟩ => ?_) fun e s' ⟨σ', H1, s1, e1, I1, q1⟩ => ?_) I.quiet hs)
  · exact wpAny_execs_nil ⟨rfl, _, H1, I1, q1⟩
  · subst e1
    exact ⟨_, H1, s1, I1, q1⟩
end
section
variable {X : Cx} {body : List Stmt} {tb : (St → Hp → Prop) → (St → XK) → St → Hp → Prop} {cx n z : Str} {c : Value} {cp np zp zp2 hp pos : Pos} {j l : Nat}
end
end L2

namespace L2
open PySem PySem.Spec PyProof.Rows
/-! ### isinstance of a caught exception -/
/-- what the part that is written tells of such a class -/
structure ExcI (K : PySem.W.Frag) (C : Addr) : Prop where
  ga : PySem.W.findIn K (.ref C) "__getattribute__" = some (some (.builtin "BaseException.__getattribute__"))
  gh : PySem.W.findIn K (.ref C) "__getattr__" = some none
  sb : PySem.W.subIn K (.ref C) (.type "BaseException") = some true
  hd : PySem.W.hasDictIn K C = true
  at_ : PySem.W.findIn K (.ref C) "__class__" = some (some (.builtin "object.__class__"))
  gt : PySem.W.specialIn K (.builtin "object.__class__") "__get__" = some (some (.builtin "getset_descriptor.__get__"))
  tk : PySem.W.takesIn K (.builtin "object.__class__") = some true
  mr : PySem.W.mroIn K C (.type "object") = some true
theorem ExcI.cls {K : PySem.W.Frag} {C : Addr} (e : ExcI K C) : ∃ oc od cd sl, K.lookup C = some ⟨oc, od, .cls cd, sl⟩ := by
  obtain ⟨cd, h, _⟩ := PySem.W.any_some e.hd
  revert h
  unfold PySem.W.clsIn
  cases q : K.lookup C with
  | none => intro h; cases h
  | some o =>
    obtain ⟨oc, od, dt, sl⟩ := o
    cases dt with
    | cls c => exact fun _ => ⟨_, _, _, _, rfl⟩
    | _ => intro h; cases h
section
open PySem.W PySem.Calls PySem.Builtin PySem.Builtin.ObjectAttr PySem.Builtin.Getset_descriptor
variable {K : PySem.W.Frag} {prog : Program} {w : World} {A : Around} {E : Value → Shared → Prop} {s : Shared} {ea C : Addr}
/-- its class is found on the class alone: the exception's own dict is never read. (The library tells this of instances whose dict is known; the classes' facts it tells by name are used here.) -/
theorem exc_find {M : Model} {h : Heap} (e : ExcI K C) (X : K.In h) : Looks M h (find (.ref ea) (.ref C) "__class__") (.bind (.builtin "getset_descriptor.__get__") (.builtin "object.__class__")) := by
  unfold find
  exact (looks_findIn X e.at_).andThen (Looks.andThen (looks_specialIn X e.gt) (Looks.andThen ((looks_takesIn X e.tk).andThen .now) (Looks.tag .now)))
/-- an exception's own way to its names passes its test -/
theorem exc_check {nameV : Value} {Q : Unit → Shared → Prop} (e : ExcI K C) (X : K.In s.heap) (known : Looks (model prog w) s.heap (typeOf (.ref ea)) (.ref C)) (h : Q () s) :
    wpAny (model prog w) A (checkBuiltinCall "BaseException.__getattribute__" ⟨[.ref ea, nameV], []⟩) Q E s := by
  obtain ⟨H0, g0, d0, t0, o0⟩ := s
  have kind : builtinKind "BaseException.__getattribute__" = some .slot := by decide +kernel
  have cut : splitId "BaseException.__getattribute__" = some ("BaseException", "__getattribute__") := by decide +kernel
  have fit := F.args_bexc_ga (.ref ea) nameV
  simp only [checkBuiltinCall, kind, cut]
  apply wpAny_bind
  apply wpAny_bind
  refine known.at ((looks_subIn X e.sb).at ?_)
  simp only [Bool.not_true, Bool.false_eq_true, if_false]
  repeat (any_goals (first | assumption | wp_step))
theorem exc_class {Q : Option Value → Shared → Prop} (e : ExcI K C) (X : K.In s.heap) (hT : ∃ o, s.heap.get? ea = some o ∧ o.cls = .ref C) (h : Q (some (.ref C)) { s with toks := s.toks + 1 }) :
    wpAny (model prog w) A (getAttr? (.ref ea) "__class__") Q E s := by
  obtain ⟨H0, g0, d0, t0, o0⟩ := s
  obtain ⟨ob, hob, hcl⟩ := hT
  have known : Looks (model prog w) H0 (typeOf (.ref ea)) (.ref C) := hcl ▸ (Looks.ld hob).andThen .now
  have self := looks_mroIn (M := model prog w) X e.mr
  have told : ∀ {A' : Around} {R : Result → Shared → Prop}, R (.ok (.ret (.ref C))) ⟨H0, g0, d0, t0 + 1, o0⟩ → codeAny (model prog w) A' (.call (.builtin "getset_descriptor.__get__") ⟨[.builtin "object.__class__", .ref ea, .ref C], []⟩) R ⟨H0, g0, d0, t0 + 1, o0⟩ := fun {A' R} hR =>
    codeAny_call_builtin KF.slot_gs.plain KF.entry_gs <| KF.slot_gs.check _ _ _ _ _ _ _ _ KF.type_class (KF.args_gs _ _ _) <| by
      unfold Builtin.«getset_descriptor.__get__» descrGet descrGetter descrCheckInstance descrNameAndClass isInstance
      rw [dga_obj]
      apply wpAny_bind
      apply wpAny_pure
      simp only [KF.owner_class]
      repeat lk
      constructor
      · exact Code.quiet_builtin _ (by decide +kernel)
      · apply codeAny_builtin KF.entry_class
        unfold Builtin.«object.__class__» shownTypeOf
        repeat lk
        assumption
  have other : (onTheHeap (Value.ref C) && Value.builtin "BaseException.__getattribute__" == Value.builtin "object.__getattribute__") = false := by
    rw [show (Value.builtin "BaseException.__getattribute__" == Value.builtin "object.__getattribute__") = false from by decide +kernel, Bool.and_false]
  unfold getAttr? getAttrBy? getAttrBy
  apply wpAny_bind
  apply wpAny_mkText
  apply wpAny_bind
  apply wpAny_attempt
  apply wpAny_holding
  apply wpAny_bind
  refine known.at (wpAny_bind ((looks_findIn X e.ga).at ?_))
  simp only [other, Bool.false_eq_true, if_false]
  unfold getAttrByItsOwn hookBefore
  rw [if_pos (show onTheHeap (Value.ref C) = true from rfl)]
  apply wpAny_bind
  refine (looks_findIn X e.gh).at ?_
  apply wpAny_bind
  apply wpAny_attempt
  apply wpAny_holding
  unfold callGetattribute boundAndCalled
  simp only [Bool.false_and, Bool.false_eq_true, if_false]
  rw [F.excAttr_ValueError.ga.bind (.ref ea)]
  apply wpAny_bind
  apply wpAny_pure
  refine wpAny_call (codeAny_call_builtin F.excAttr_ValueError.ga.plain F.entry_bexc_ga (exc_check (s := ⟨H0, g0, d0, t0 + 1, o0⟩) e X known ?_))
  have found := exc_find (M := model prog w) (ea := ea) e X
  unfold Builtin.«object.__getattribute__»
  repeat (first | (with_reducible refine wpAny_call (told ?_)) | assumption | lk | wp_step)
noncomputable def ExcT (ea C : Addr) (h : Heap) : Prop := ∃ o, h.get? ea = some o ∧ o.cls = .ref C
theorem kitx_exc (e : ExcI K C) : PySem.W.KitX K (.ref ea) (.ref C) (ExcT ea C) where
  ty := fun _ _ _ ⟨_, h1, h2⟩ => h2 ▸ (Looks.ld h1).andThen .now
  it := fun _ _ X _ => by
    obtain ⟨oc, od, cd, sl, hl⟩ := e.cls
    intro _ _ _ _ k q
    unfold isType loadHead
    apply wpAny_bind
    exact wpAny_loadPart (k _ _ (X _ _ hl)) (wpAny_pure q)
  ne := fun h tp dd its n sl X htp => by
    obtain ⟨oc, od, cd, sl', hl⟩ := e.cls
    cases z : (Value.ref C == Value.ref tp) with
    | false => rfl
    | true =>
      cases Value.ref.inj (beq_iff_eq.mp z)
      have := X _ _ hl
      rw [htp] at this
      cases this
  ca := fun X p k => exc_class e X p k
end
/-- isinstance(e, T), e a caught exception -/
theorem call_isE {X : Cx} {K : PySem.W.Frag} (hK : X.K = K) : CallR X (.builtin "isinstance") (fun vs H Q => ∃ ea C c b, vs = [.ref ea, c] ∧ H ea = some (excO ea C) ∧ ExcI K C ∧ (∀ u, RelV c u → PySem.W.kitOne K (.ref C) u = some b) ∧ Q (.bl b) H) := by
  subst hK
  intro pins s σ H xs us Q I r h
  obtain ⟨ea, C, c, b, rfl, he, i, hk, q⟩ := h
  obtain ⟨u, v, rfl, rx, ry⟩ := vals2 r
  cases rx
  obtain ⟨⟨o, vs, h1, h2, _⟩, _⟩ := I.hok ea _ he
  exact PySem.W.kia_one (kitx_exc i) I.kIn ⟨o, h1, h2⟩ (hk v ry) (by intro z; cases z) fun tk => ⟨.bl b, H, I.tok tk, rfl, q⟩
end L2

namespace L2
open PySem PySem.Spec PyProof.Rows
/-! ### list(d.values()), the keys whole numbers -/
section
variable {X : Cx}
end
end L2

namespace L2
open PySem PySem.Spec PyProof.Rows
/-! ### try: .. except C: .., the exception not named -/
section
variable {X : Cx} {body hb : List Stmt} {b₀ : Stmt} {tb : (St → Hp → Prop) → (St → XK) → St → Hp → Prop} {th : TS} {cx : Str} {c : Value} {cp hp pos : Pos}
noncomputable def tTryNo (K : PySem.W.Frag) (c : Value) (tb : (St → Hp → Prop) → (St → XK) → St → Hp → Prop) (th : TS) : TS := fun D σ H =>
  tb D.nx (fun σ' cls _ H2 => ∃ C, cls = .ref C ∧ PySem.W.exmOne K (.ref C) c = some true ∧ ∀ ea, H2 ea = none → th { nx := D.nx, rt := fun _ _ => False } σ' (upd H2 ea (excO ea C))) σ H
theorem ps_tryNo (hb' : PTry X body tb) (hh : ∀ ea, PSs (X.within ea) (b₀ :: hb) th) (hg : Gl X cx) (hm : X.mg cx = some c) (hst : X.stack = X.env :: X.outer) (hfr : X.env.frame = some X.env.locals) (hdb : (cx == ("__debug__" : Str)) = false := by decide) :
    PS X (.Try body [.ExceptHandler (some (.Name cx cp)) none (b₀ :: hb) hp] [] [] pos) (tTryNo X.K c tb th) := by
  intro pins s σ H D I h
  refine wpAny_Try_except (wpAny_mono (hb' pins s σ H _ _ I h) (fun f s1 q => ?_) fun e s1 q => ?_)
  · obtain ⟨rfl, σ', H', I', q⟩ := q
    exact wpAny_execs_nil ⟨σ', H', I', q⟩
  · obtain ⟨σ', H1, s2, I1, ea, C, B, H', rfl, F, C', ec, hex, q⟩ := q
    obtain rfl : C = C' := by injection ec
    obtain ⟨a0, fl⟩ := F.fly
    have hframes : X.A.frames = some (X.env :: X.outer) := by rw [← hst]; exact I1.ok.frames
    have fl' := fl
    rw [hst] at fl'
    refine wpAny_looks_onW hframes hfr fl' fun h4 held sm4 => ?_
    refine wpAny_landsW held fun h5 fl5 sm5 => ?_
    rw [← hst] at fl5
    have J5 := F.landed I1 fl5 (sm4.trans sm5)
    refine wpAny_handleBy_cons (codeAny_handlers_test ?_) (by intro q; cases q)
    refine Calls.Name_function_global J5.ok.kind hg (Calls.loadGlobal_global (by rw [J5.ok.glob]; exact J5.mod.glob.keeps J5.bk) hm ?_) hdb
    obtain ⟨ob, hob, hobc⟩ := fl5.there
    have LT : PySem.W.Looks (model X.prog X.w) h5 (typeOf (.ref ea)) (.ref C) := hobc ▸ (PySem.W.Looks.ld hob).andThen .now
    refine (PySem.W.exm_one J5.kIn LT hex).here ?_
    refine codeAny_handlers_suite ?_
    refine lands_againW fl5 fun h6 fl6 sm6 => ?_
    have J6 := F.landed I1 fl6 ((sm4.trans sm5).trans sm6)
    refine wpAny_mono (hh ea pins _ σ' _ { nx := D.nx, rt := fun _ _ => False } (J6.inS ea) (q ea F.fresh)) (fun f s8 q8 => ?_) fun _ _ z => z.elim
    cases f with
    | next =>
      obtain ⟨σ2, H2, J8, q9⟩ := q8
      exact ⟨σ2, H2, J8.outS I.ok.hd, q9⟩
    | ret v => obtain ⟨_, _, _, _, _, z⟩ := q8; exact z.elim
    | brk => obtain ⟨_, _, _, z⟩ := q8; exact z.elim
    | cont => obtain ⟨_, _, _, z⟩ := q8; exact z.elim
end
end L2

namespace L2
open PySem PySem.Spec PyProof.Rows PySem.W
/-! ### all sets within a set, size by size -/
end L2

namespace L2
open PySem PySem.Spec PyProof.Rows
section
variable {X : Cx} {K : PySem.W.Frag}
end
/-! ### what a set settles, told by the sets that keep the rules; keys -/
/-! keys -/
end L2

namespace L2
open PySem PySem.Spec PyProof.Rows
/-! ### what a set settles, as a number; gains part by part -/
end L2

namespace L2
open PySem PySem.Spec PyProof.Rows
end L2

namespace L2
open PySem PySem.Spec PyProof.Rows
section
variable {X : Cx} {K : PySem.W.Frag}
end
/-! ### keys told by the sets that keep the rules -/
end L2

namespace L2
open PySem PySem.Spec PyProof.Rows
/-! ### every set is unfolded; gains told by the sets that keep the rules -/
end L2

namespace L2
open PySem PySem.Spec PyProof.Rows
/-! ### what is told twice, and the tree of cuts -/
/-! the run by levels -/
/-! trees -/
end L2

namespace L2
open PySem PySem.Spec PyProof.Rows
/-! ### the cover of a cover is the cover -/
/-! keys hang on what the rules say alone -/
end L2

namespace L2
open PySem PySem.Spec PyProof.Rows
/-! ### parts by the cover: lefts as they are first met, what stands with each -/
/-! ### a key more, and those within others left out -/
/-! ### what the defs promise -/
end L2

namespace L2
open PySem PySem.Spec PyProof.Rows
/-- a def that may raise, called where it does not -/
theorem FnOk.calm {P : Program} {w : World} {K : PySem.W.Frag} {mg : Str → Option Value} {base : Heap} {k : Nat} {f : Addr} {fd : FuncData} {ps : List Str} {sp : Sp} (F : FnOk P w K mg base (CX1 P w) k f fd ps sp) :
    FnOk P w K mg base CX0 k f fd ps (fun vs H Q _ => sp vs H Q fun _ _ _ => False) :=
  ⟨fun vs H Q _ h => F.len vs H Q _ h, fun A outer s H args us vs Q E hr he hb hv hs => codeAny_mono (F.run A outer s H args us vs Q _ hr he hb hv hs) fun r s' h => by
    cases r with
    | error e =>
      obtain ⟨_, _, _, _, _, _, z⟩ := (show CX1 P w outer H s (fun _ _ _ => False) e s' from h)
      exact z.elim
    | ok fl =>
      cases fl with
      | ret u => exact h
      | next => exact h
      | brk => exact h
      | cont => exact h⟩
end L2

namespace L2
open PySem PySem.Spec PyProof.Rows
/-! ### pairs and trees in the heap -/
/-! ### promises -/
/-- isinstance(e, (A, B ..)), e a caught exception -/
theorem call_isET {X : Cx} {K : PySem.W.Frag} (hK : X.K = K) : CallR X (.builtin "isinstance") (fun vs H Q => ∃ ea C tp cs b, vs = [.ref ea, .ref tp] ∧ H ea = some (excO ea C) ∧ ExcI K C ∧ H tp = some (.tup cs) ∧ (∀ us, Vals cs us → PySem.W.kitAny K (.ref C) us = some b) ∧ Q (.bl b) H) := by
  subst hK
  intro pins s σ H xs us Q I r h
  obtain ⟨ea, C, tp, cs, b, rfl, he, i, ht, hk, q⟩ := h
  obtain ⟨u, v, rfl, rx, ry⟩ := vals2 r
  cases rx
  cases ry
  obtain ⟨⟨o, vs, h1, h2, _⟩, _⟩ := I.hok ea _ he
  obtain ⟨_, its, rv, ob, e1, e2, n, e3⟩ := I.hok tp _ ht
  obtain ⟨oc, od, dt, sl⟩ := ob
  obtain rfl : oc = _ := e2
  obtain rfl : dt = _ := e3
  exact PySem.W.kia_tup (kitx_exc i) I.kIn ⟨o, h1, h2⟩ e1 (hk its rv) (by intro z; cases z) fun tk => ⟨.bl b, H, I.tok tk, rfl, q⟩
end L2

namespace L2
open PySem PySem.Spec PyProof.Rows
/-! ### names of columns, sets as texts (k82) -/
noncomputable def noS : Str := ⟨#[]⟩
structure NM (nms : List Str) : Prop where
  l1 : 1 ≤ nms.length
  l7 : nms.length ≤ 7
  nd : nms.Nodup
  ne : ∀ n ∈ nms, n.cps.toList ≠ []
  low : ∀ n ∈ nms, ∀ c ∈ n.cps.toList, 97 ≤ c ∧ c ≤ 122
  len : ∀ n ∈ nms, n.length ≤ 8
noncomputable def namN (nms : List Str) (s : Nat) : List Str := (colsN s).map fun c => nms.getD c noS
noncomputable def commaS : Str := ⟨#[44]⟩
noncomputable def dashS : Str := ⟨#[45]⟩
noncomputable def showS (nms : List Str) (s : Nat) : Str := if s = 0 then dashS else Str.join commaS (namN nms s)
theorem cols_up : ∀ s, s < 128 → (colsN s).Pairwise (· < ·) := by decide +kernel
theorem cols_or : ∀ k, k < 7 → ∀ a, a < 2 ^ k → colsN (a ||| 2 ^ k) = colsN a ++ [k] := by decide +kernel
section
variable {nms : List Str} {s : Nat}
theorem cols_lt (N : NM nms) (hs : s < 2 ^ nms.length) {c : Nat} (h : c ∈ colsN s) : c < nms.length := by
  have := pow7 N.l7
  exact hasb_lt hs ((cols_mem (by omega) c).mp h)
theorem small128 (N : NM nms) (hs : s < 2 ^ nms.length) : s < 128 := by
  have := pow7 N.l7
  omega
theorem getD_nm (h : s < nms.length) : nms.getD s noS ∈ nms ∧ nms[s]? = some (nms.getD s noS) := by
  rw [List.getD_eq_getElem?_getD, List.getElem?_eq_getElem h]
  exact ⟨List.getElem_mem h, rfl⟩
theorem nm_inj (N : NM nms) {a b : Nat} (ha : a < nms.length) (hb : b < nms.length) (e : nms.getD a noS = nms.getD b noS) : a = b := by
  have h1 := (getD_nm ha).2
  have h2 := (getD_nm hb).2
  rw [e, ← h2] at h1
  exact (List.getElem?_inj ha N.nd).mp h1
theorem in_mem (N : NM nms) (hs : s < 2 ^ nms.length) {w : Str} (h : w ∈ namN nms s) : w ∈ nms := by
  obtain ⟨c, hc, rfl⟩ := List.mem_map.mp h
  exact (getD_nm (cols_lt N hs hc)).1
theorem in_ne (hs : s < 128) (h : s ≠ 0) : namN nms s ≠ [] := by
  obtain ⟨k, hk⟩ := bit_of_ne h
  intro z
  have : k ∈ colsN s := (cols_mem hs k).mpr hk
  unfold namN at z
  rw [List.map_eq_nil_iff] at z
  rw [z] at this
  exact absurd this List.not_mem_nil
/-- once some words are those of a set, the next one is above it -/
theorem next_up (N : NM nms) (hs : s < 2 ^ nms.length) {a i : Nat} {ws : List Str} {w : Str} (ha : a < 2 ^ nms.length) (e : ws = namN nms s) (et : ws.take i = namN nms a) (ew : ws[i]? = some w) : ∃ k, k < nms.length ∧ w = nms.getD k noS ∧ a < 2 ^ k := by
  rw [e] at ew et
  unfold namN at ew et
  rw [List.getElem?_map] at ew
  cases ek : (colsN s)[i]? with
  | none => rw [ek] at ew; cases ew
  | some k =>
    rw [ek] at ew
    have hk := cols_lt N hs (List.mem_of_getElem? ek)
    refine ⟨k, hk, (Option.some.inj ew).symm, ?_⟩
    refine Nat.lt_pow_two_of_testBit _ fun j hj => ?_
    cases tj : a.testBit j with
    | false => rfl
    | true =>
      exfalso
      have hja : j ∈ colsN a := (cols_mem (small128 N ha) j).mpr tj
      have hjl := cols_lt N ha hja
      have : nms.getD j noS ∈ ((colsN s).map fun c => nms.getD c noS).take i := by rw [et]; exact List.mem_map.mpr ⟨j, hja, rfl⟩
      rw [← List.map_take] at this
      obtain ⟨j', hj', e'⟩ := List.mem_map.mp this
      have hj'l := cols_lt N hs (List.mem_of_mem_take hj')
      obtain rfl := nm_inj N hj'l hjl e'
      obtain ⟨q, hq⟩ := List.getElem?_of_mem hj'
      rw [List.getElem?_take] at hq
      split at hq
      · rename_i hqi
        have pw := cols_up s (small128 N hs)
        rw [List.pairwise_iff_getElem] at pw
        obtain ⟨l1, e1⟩ := List.getElem?_eq_some_iff.mp hq
        obtain ⟨l2, e2⟩ := List.getElem?_eq_some_iff.mp ek
        have := pw q i l1 l2 hqi
        rw [e1, e2] at this
        omega
      · cases hq
theorem in_or (N : NM nms) {a k : Nat} (hk : k < nms.length) (ha : a < 2 ^ k) : namN nms (a ||| 2 ^ k) = namN nms a ++ [nms.getD k noS] := by
  unfold namN
  rw [cols_or k (by have := N.l7; omega) a ha, List.map_append]
  rfl
theorem in_inj (N : NM nms) {a b : Nat} (ha : a < 2 ^ nms.length) (hb : b < 2 ^ nms.length) (e : namN nms a = namN nms b) : a = b := by
  have half : ∀ {a b : Nat}, a < 2 ^ nms.length → b < 2 ^ nms.length → namN nms a = namN nms b → ∀ c, HasB a c → HasB b c := fun {a b} ha hb e c hc => by
    have h1 : c ∈ colsN a := (cols_mem (small128 N ha) c).mpr hc
    have : nms.getD c noS ∈ namN nms b := by rw [← e]; exact List.mem_map.mpr ⟨c, h1, rfl⟩
    obtain ⟨c', h2, e2⟩ := List.mem_map.mp this
    obtain rfl := nm_inj N (cols_lt N hb h2) (cols_lt N ha h1) e2
    exact (cols_mem (small128 N hb) _).mp h2
  exact bits_eq fun c => ⟨half ha hb e c, half hb ha e.symm c⟩
/-- the signs of a text of names -/
noncomputable def okC (c : Nat) : Prop := c = 44 ∨ 97 ≤ c ∧ c ≤ 122
theorem join_signs : ∀ {ps : List Str}, (∀ p ∈ ps, ∀ c ∈ p.cps.toList, okC c) → ∀ c ∈ (Str.join commaS ps).cps.toList, okC c
  | [], _, c, hc => by cases hc
  | [p], h, c, hc => h p (List.mem_singleton.mpr rfl) c hc
  | p :: q :: r, h, c, hc => by
    have e : Str.join commaS (p :: q :: r) = p ++ commaS ++ Str.join commaS (q :: r) := rfl
    rw [e, Str.cps_append, Str.cps_append, Array.toList_append, Array.toList_append] at hc
    rcases List.mem_append.mp hc with hc | hc
    · rcases List.mem_append.mp hc with hc | hc
      · exact h p (List.mem_cons_self ..) c hc
      · exact .inl (List.mem_singleton.mp hc)
    · exact join_signs (fun x hx => h x (List.mem_cons_of_mem _ hx)) c hc
theorem nm_okC (N : NM nms) {n : Str} (h : n ∈ nms) : ∀ c ∈ n.cps.toList, okC c := fun c hc => .inr (N.low n h c hc)
theorem nm_free (N : NM nms) {n : Str} (h : n ∈ nms) : 44 ∉ n.cps.toList := fun z => by
  have := N.low n h 44 z
  omega
/-- words that are those of a set: the text has only letters and commas -/
theorem words_signs (N : NM nms) (hs : s < 2 ^ nms.length) {t : Str} (e : Txt.split t commaS = namN nms s) : ∀ c ∈ t.cps.toList, okC c := by
  have h1 : Str.join commaS (Txt.split t commaS) = t := StrLaws.join_split t commaS
  rw [e] at h1
  rw [← h1]
  exact join_signs fun p hp => nm_okC N (in_mem N hs hp)
theorem split_comma {ps : List Str} (h0 : ps ≠ []) (h : ∀ p ∈ ps, 44 ∉ p.cps.toList) : Txt.split (Str.join commaS ps) commaS = ps := split_join (c := 44) (by decide) h0 h
theorem show_split (N : NM nms) (hs : s < 2 ^ nms.length) (h0 : s ≠ 0) : Txt.split (Str.join commaS (namN nms s)) commaS = namN nms s :=
  split_join (c := 44) (by decide) (in_ne (small128 N hs) h0) fun p hp => nm_free N (in_mem N hs hp)
/-- a text that writes no set -/
noncomputable def NoSetT (nms : List Str) (t : Str) : Prop := t ≠ dashS ∧ ∀ s, s < 2 ^ nms.length → Txt.split t commaS ≠ namN nms s
theorem bad_sign (N : NM nms) {t : Str} (hd : t ≠ dashS) {c : Nat} (h : c ∈ t.cps.toList) (hc : ¬ okC c) : NoSetT nms t := ⟨hd, fun s hs e => hc (words_signs N hs e c h)⟩
theorem bad_piece (N : NM nms) {ps : List Str} (h0 : ps ≠ []) (hf : ∀ p ∈ ps, 44 ∉ p.cps.toList) (hd : Str.join commaS ps ≠ dashS) {w : Str} (hw : w ∈ ps) (no : w ∉ nms) : NoSetT nms (Str.join commaS ps) :=
  ⟨hd, fun s hs e => no (in_mem N hs (by rw [← e, split_comma h0 hf]; exact hw))⟩
theorem bad_two (N : NM nms) {i j : Nat} (hi : i < nms.length) (hj : j < nms.length) (h : j ≤ i) : NoSetT nms (Str.join commaS [nms.getD i noS, nms.getD j noS]) := by
  have mi := (getD_nm hi).1
  have mj := (getD_nm hj).1
  have hf : ∀ p ∈ [nms.getD i noS, nms.getD j noS], 44 ∉ p.cps.toList := fun p hp => by
    rcases List.mem_cons.mp hp with rfl | hp
    · exact nm_free N mi
    · rw [List.mem_singleton.mp hp]; exact nm_free N mj
  refine ⟨fun e => ?_, fun s hs e => ?_⟩
  · have : (44 : Nat) ∈ dashS.cps.toList := by
      rw [← e]
      show 44 ∈ ((nms.getD i noS ++ commaS ++ nms.getD j noS : Str)).cps.toList
      simp [Str.cps_append, commaS]
    cases this with | tail _ h => cases h
  · rw [split_comma (List.cons_ne_nil _ _) hf] at e
    obtain ⟨k, hk, ek, hlt⟩ := next_up (a := 2 ^ i) (i := 1) N hs (Nat.pow_lt_pow_right (by decide) hi) e (by
      have : namN nms (2 ^ i) = [nms.getD i noS] := by
        have := in_or (a := 0) N hi (Nat.two_pow_pos i)
        rw [Nat.zero_or] at this
        rw [this]
        rfl
      rw [this]; rfl) rfl
    have := nm_inj N hj hk ek
    subst this
    have h2 : 2 ^ j ≤ 2 ^ i := Nat.pow_le_pow_right (by decide) h
    omega
end
end L2

namespace L2
open PySem PySem.Spec PyProof.Rows
section
variable {X : Cx}
end
end L2

namespace L2
open PySem PySem.Spec PyProof.Rows
/-! ### the book of all choices by blocks (k24, k33) -/
end L2

namespace L2
open PySem PySem.Spec PyProof.Rows
section
variable {X : Cx} {K : PySem.W.Frag} {pins : List (Addr × Obj)} {σ : St} {H : Hp} {s : Shared}
end
/-! the cell, told exactly -/
noncomputable def cellV (ns : List Int) (k : Nat) : Nat := (ns.getD k 0 % 2147483629).toNat
noncomputable def cellN (ns : List Int) (k : Nat) : Nat := if k < ns.length then cellV ns k else if 0 < ns.length then ((k * k * 48271 + 11 + cellV ns (k % ns.length) * 69621) * (k * k * 48271 + 11 + cellV ns (k % ns.length) * 69621)) % 2147483629 else ((k * k * 48271 + 11) * (k * k * 48271 + 11)) % 2147483629
theorem cellV_eq {ns : List Int} {k c : Nat} (hk : k < ns.length) (e : ns[k] % 2147483629 = (c : Int)) : cellV ns k = c := by
  unfold cellV
  rw [List.getD_eq_getElem?_getD, List.getElem?_eq_getElem hk]
  show (ns[k] % 2147483629).toNat = c
  rw [e, Int.toNat_natCast]
noncomputable def spCellD (K : PySem.W.Frag) : Sp := fun vs H Q _ => ∃ (sc : Addr) (ns : List Int) (k : Nat), vs = [.ref sc, vN k] ∧ SqL K H sc (ns.map V.int) ∧ k ≤ 1000 ∧ Q (vN (cellN ns k)) H
/-! rows keep rules -/
end L2

namespace L2
open PySem PySem.Spec PyProof.Rows
/-! ### try: .. except C as e: a block that uses e -/
section
variable {X : Cx} {body hb : List Stmt} {b₀ : Stmt} {tb : (St → Hp → Prop) → (St → XK) → St → Hp → Prop} {th : TS} {cx n : Str} {c : Value} {cp hp pos : Pos} {l : Nat}
noncomputable def tTryAsB (K : PySem.W.Frag) (c : Value) (l : Nat) (tb : (St → Hp → Prop) → (St → XK) → St → Hp → Prop) (th : TS) : TS := fun D σ H =>
  tb D.nx (fun σ' cls _ H2 => ∃ C, cls = .ref C ∧ PySem.W.exmOne K (.ref C) c = some true ∧ ∀ ea, H2 ea = none → th { nx := fun σ2 H3 => D.nx (σ2.set l none) H3, rt := fun _ _ => False } (σ'.set l (some (.ref ea))) (upd H2 ea (excO ea C))) σ H
theorem ps_tryAsB (hb' : PTry X body tb) (hh : ∀ ea, PSs (X.within ea) (b₀ :: hb) th) (hg : Gl X cx) (hm : X.mg cx = some c) (hst : X.stack = X.env :: X.outer) (hfr : X.env.frame = some X.env.locals) (hN : X.N.Nodup)
    (hl : X.N[l]? = some n) (hnl : X.env.scope.names.lookup n = some .local) (hdb : (cx == ("__debug__" : Str)) = false := by decide) :
    PS X (.Try body [.ExceptHandler (some (.Name cx cp)) (some n) (b₀ :: hb) hp] [] [] pos) (tTryAsB X.K c l tb th) := by
  intro pins s σ H D I h
  refine wpAny_Try_except (wpAny_mono (hb' pins s σ H _ _ I h) (fun f s1 q => ?_) fun e s1 q => ?_)
  · obtain ⟨rfl, σ', H', I', q⟩ := q
    exact wpAny_execs_nil ⟨σ', H', I', q⟩
  · obtain ⟨σ', H1, s2, I1, ea, C, B, H', rfl, F, C', ec, hex, q⟩ := q
    obtain rfl : C = C' := by injection ec
    obtain ⟨a0, fl⟩ := F.fly
    have hframes : X.A.frames = some (X.env :: X.outer) := by rw [← hst]; exact I1.ok.frames
    have fl' := fl
    rw [hst] at fl'
    refine wpAny_looks_onW hframes hfr fl' fun h4 held sm4 => ?_
    refine wpAny_landsW held fun h5 fl5 sm5 => ?_
    rw [← hst] at fl5
    have J5 := F.landed I1 fl5 (sm4.trans sm5)
    refine wpAny_handleBy_cons (codeAny_handlers_test ?_) (by intro q; cases q)
    refine Calls.Name_function_global J5.ok.kind hg (Calls.loadGlobal_global (by rw [J5.ok.glob]; exact J5.mod.glob.keeps J5.bk) hm ?_) hdb
    obtain ⟨ob, hob, hobc⟩ := fl5.there
    have LT : PySem.W.Looks (model X.prog X.w) h5 (typeOf (.ref ea)) (.ref C) := hobc ▸ (PySem.W.Looks.ld hob).andThen .now
    refine (PySem.W.exm_one J5.kIn LT hex).here ?_
    refine codeAny_handlers_suite_as ?_
    refine lands_againW fl5 fun h6 fl6 sm6 => ?_
    have J6 := F.landed I1 fl6 ((sm4.trans sm5).trans sm6)
    refine store_ok (v := .ref ea) J6 hN hl (.inl hnl) rfl (fun s7 J7 => ?_) (.inr hnl)
    refine wpAny_mono (hh ea pins s7 _ _ { nx := fun σ2 H3 => D.nx (σ2.set l none) H3, rt := fun _ _ => False } (J7.inS ea) (q ea F.fresh)) (fun f s8 q8 => ?_) fun _ _ z => z.elim
    cases f with
    | next =>
      obtain ⟨σ2, H2, J8, q9⟩ := q8
      have J8 := J8.outS I.ok.hd
      exact J8.goes hN hl hnl fun s9 J9 => ⟨_, _, J9, q9⟩
    | ret v => obtain ⟨_, _, _, _, _, z⟩ := q8; exact z.elim
    | brk => obtain ⟨_, _, _, z⟩ := q8; exact z.elim
    | cont => obtain ⟨_, _, _, z⟩ := q8; exact z.elim
end
/-! ### lengths -/
theorem join_ok {sep : Str} {ys : List Str} (h : (ys.map (·.length)).sum + ys.length * sep.length ≤ 1000) : JoinOk sep ys = true := by
  unfold JoinOk
  rw [Bool.not_eq_true']
  show decide (_ > sizeLine) = false
  rw [StrLaws.joinTotal, decide_eq_false]
  have := sizeLine_eq
  omega
theorem sum_le {ys : List Str} {d : Nat} (h : ∀ y ∈ ys, y.length ≤ d) : (ys.map (·.length)).sum ≤ ys.length * d := by
  induction ys with
  | nil => simp
  | cons y ys ih =>
    rw [List.map_cons, List.sum_cons, List.length_cons, Nat.succ_mul]
    have h1 := h y (List.mem_cons_self ..)
    have h2 := ih fun z hz => h z (List.mem_cons_of_mem _ hz)
    omega
theorem join_len_ge : ∀ ps : List Str, ps.length ≤ (Str.join commaS ps).length + 1
  | [] => by simp
  | [p] => by simp
  | p :: q :: r => by
    have e : Str.join commaS (p :: q :: r) = p ++ commaS ++ Str.join commaS (q :: r) := rfl
    have h := join_len_ge (q :: r)
    rw [e, Str.length_append, Str.length_append]
    have : commaS.length = 1 := rfl
    simp only [List.length_cons] at h ⊢
    omega
theorem split_len (t : Str) : (Txt.split t commaS).length ≤ t.length + 1 := by
  have h1 : Str.join commaS (Txt.split t commaS) = t := StrLaws.join_split t commaS
  have := join_len_ge (Txt.split t commaS)
  rw [h1] at this
  exact this
section
variable {nms : List Str} {s : Nat}
theorem nam_len (N : NM nms) (hs : s < 2 ^ nms.length) : (namN nms s).length ≤ 7 := by
  unfold namN
  rw [List.length_map]
  have : ∀ s, s < 128 → (colsN s).length ≤ 7 := by decide +kernel
  exact this s (small128 N hs)
theorem nam_ok (N : NM nms) (hs : s < 2 ^ nms.length) : JoinOk commaS (namN nms s) = true := by
  have h1 := nam_len N hs
  have h2 := sum_le (d := 8) fun y hy => N.len y (in_mem N hs hy)
  refine join_ok ?_
  have e : commaS.length = 1 := rfl
  rw [e]
  omega
theorem show_len (N : NM nms) (hs : s < 2 ^ nms.length) : (showS nms s).length ≤ 70 := by
  unfold showS
  split
  · decide
  · have h1 := nam_len N hs
    have h2 := sum_le (d := 8) fun y hy => N.len y (in_mem N hs hy)
    have h3 := StrLaws.join_length_le commaS (namN nms s)
    have e : commaS.length = 1 := rfl
    rw [e] at h3
    omega
theorem in_range : ∀ n, n < 8 → ∀ s, s < 2 ^ n → (List.range n).filter (hasB s) = colsN s := by decide +kernel
end
/-! ### promises -/
noncomputable def NAt (K : PySem.W.Frag) (H : Hp) (np : Addr) (nms : List Str) : Prop := SqL K H np (nms.map V.str)
noncomputable def spSetNamed (K : PySem.W.Frag) : Sp := fun vs H Q _ => ∃ (np wp : Addr) (nms ws : List Str), vs = [.ref np, .ref wp] ∧ NAt K H np nms ∧ NM nms ∧ SqL K H wp (ws.map V.str) ∧ ws.length ≤ 1000 ∧
  (∀ s, s < 2 ^ nms.length → ws = namN nms s → Q (vN s) H) ∧ ((∀ s, s < 2 ^ nms.length → ws ≠ namN nms s) → Q .non H)
noncomputable def spNamesIn (K : PySem.W.Frag) : Sp := fun vs H Q _ => ∃ (np : Addr) (nms : List Str) (s : Nat), vs = [.ref np, vN s] ∧ NAt K H np nms ∧ NM nms ∧ s < 2 ^ nms.length ∧ ∀ (l : Addr) (H' : Hp), Same H H' → H l = none → H' l = some (.lst ((namN nms s).map V.str)) → Q (.ref l) H'
noncomputable def spShowS (K : PySem.W.Frag) : Sp := fun vs H Q _ => ∃ (np : Addr) (nms : List Str) (s : Nat), vs = [.ref np, vN s] ∧ NAt K H np nms ∧ NM nms ∧ s < 2 ^ nms.length ∧ ∀ H', Same H H' → Q (.str (showS nms s)) H'
noncomputable def spReadSet (K : PySem.W.Frag) (CT : Addr) : Sp := fun vs H Q E => ∃ (np : Addr) (nms : List Str) (t : Str), vs = [.ref np, .str t] ∧ NAt K H np nms ∧ NM nms ∧ t.length ≤ 300 ∧ (∀ c ∈ t.cps.toList, c < 256) ∧
  (t = dashS → Q (vN 0) H) ∧ (∀ s H', Same H H' → t ≠ dashS → s < 2 ^ nms.length → Txt.split t commaS = namN nms s → Q (vN s) H') ∧ (NoSetT nms t → ∀ H', Same H H' → E (.ref CT) none H')
end L2

namespace L2
open PySem PySem.Spec PyProof.Rows
theorem flat_str (l : List Str) : (l.map V.str).all flatV = true := by
  rw [List.all_map, List.all_eq_true]
  exact fun _ _ => rfl
theorem inV_str {x : Str} {l : List Str} : inV (.str x) (l.map V.str) = decide (x ∈ l) := by
  unfold inV
  rw [List.any_map, Bool.eq_iff_iff, List.any_eq_true, decide_eq_true_iff]
  constructor
  · rintro ⟨y, hy, e⟩
    have e : (y == x) = true := e
    rw [← eq_of_beq e]
    exact hy
  · intro h
    exact ⟨x, h, beq_self_eq_true x⟩
section
variable {X : Cx} {K : PySem.W.Frag}
/-- names.index(word) -/
theorem mt_indexS (hK : X.K = K) : MtR X "list.index" (fun x vs H Q => ∃ (p : Addr) (l : List Str) (k : Nat), x = .ref p ∧ SqL K H p (l.map V.str) ∧ l.length ≤ 1000 ∧ l.Nodup ∧ k < l.length ∧ vs = [.str (l.getD k noS)] ∧ Q (vN k) H) := by
  subst hK
  intro pins s σ H x vs v us Q I rx rv h
  obtain ⟨p, l, k, rfl, hq, hl, nd, hk, rfl, q⟩ := h
  cases rx
  obtain ⟨u, rfl, ru⟩ := Vals.one rv
  obtain ⟨its, r, pl, hz⟩ := I.list hq
  obtain ⟨⟨c, d, dt, sl⟩, n, e, h1, h2, h3⟩ := pl
  obtain rfl : c = _ := h1
  obtain rfl : d = _ := h2
  obtain rfl : dt = _ := h3
  have len : its.length = l.length := by rw [← r.length, List.length_map]
  have at_ : ∀ j (hj : j < its.toArray.size), eqU (.str (l.getD k noS)) its.toArray[j] = decide (l.getD j noS = l.getD k noS) := fun j hj => by
    have hj' : j < l.length := by rw [← len]; simpa using hj
    obtain ⟨w, hw, rw'⟩ := r.get (i := j) (x := V.str l[j]) (by rw [List.getElem?_map, List.getElem?_eq_getElem hj']; rfl)
    have : its.toArray[j] = w := by
      rw [List.getElem?_eq_getElem (by simpa using hj)] at hw
      simpa using hw
    have ej : l.getD j noS = l[j] := by rw [List.getD_eq_getElem?_getD, List.getElem?_eq_getElem hj']; rfl
    rw [this, eqU_of rw' rfl, ej]
    show (l[j] == l.getD k noS) = decide (l[j] = l.getD k noS)
    rw [Bool.eq_iff_iff, beq_iff_eq, decide_eq_true_iff]
  refine call_meets F.slot_list_index ⟨_, e, rfl⟩ F.entry_list_index (F.args_list_index_2 _ _) (SeqAt.list_indexAt p its.toArray n none sl u (eqU (.str (l.getD k noS))) k (by rw [List.size_toArray, len]; exact hk) (by omega) ?_ fun m hm hlt => ?_)
    ⟨e, fun y hy => mem_eqAt ru rfl r (flat_str l) y (by simpa using hy), ⟨vN k, H, I.tok _, ⟨_, rfl⟩, q⟩⟩
  · rw [at_, decide_eq_true_iff]
  · rw [at_, decide_eq_false_iff_not]
    intro z
    have hm' : m < l.length := by rw [← len]; simpa using hm
    have e1 : l.getD m noS = l[m] := by rw [List.getD_eq_getElem?_getD, List.getElem?_eq_getElem hm']; rfl
    have e2 : l.getD k noS = l[k] := by rw [List.getD_eq_getElem?_getD, List.getElem?_eq_getElem hk]; rfl
    have h1 : l[m]? = l[k]? := by rw [List.getElem?_eq_getElem hm', List.getElem?_eq_getElem hk, ← e1, ← e2, z]
    have := (List.getElem?_inj hm' nd).mp h1
    omega
end
end L2

namespace Own
open PySem L2
noncomputable def top (i : Nat) : Stmt := PySem.Challenge.pw_splithouse_k82_sets_written.main.body.getD i (.Pass ⟨0, 0, 0, 0⟩)
section
variable {P : Program} {w : World} {K : PySem.W.Frag} {mg : Str → Option Value} {base : Heap}
seal PySem.wpAny
noncomputable abbrev sSetN : Stmt := top 11
theorem scSetN : FnScope ["names", "words", "some", "word", "column"] ["names", "words"] (defScope sSetN) := ⟨rfl, rfl, rfl, by decide +kernel, rfl, by decide +kernel, by decide +kernel⟩
theorem ok_setn {f : Addr} {fd : FuncData} (F : Fun K "set_named" "set_named" sSetN f fd) : FnOk P w K mg base CX0 1 f fd ["names", "words"] (spSetNamed K) := by
  refine F.ok scSetN (fun vs H Q E h => ?_) (fun cdv A outer s H vs Q E hr h => ?_)
  · obtain ⟨np, wp, nms, ws, rfl, _⟩ := h
    rfl
  · obtain ⟨np, wp, nms, ws, rfl, hn, NN, hw, lw, qs, qn⟩ := h
    have nd := scSetN.nd
    have lwm : (ws.map V.str).length = ws.length := List.length_map ..
    have p7 := pow7 NN.l7
    refine ⟨_, (pss_cons (ps_set (i := 2) nd rfl (Or.inl rfl) pe_int)
      (pss_cons (ps_for PassesOwn.never rfl (pi_listK (K := K) rfl (pv 1)) (pg_name (i := 3) nd rfl (Or.inl rfl)) (pss_cons (ps_if (pt_cmpR op_notIn_seq (pv 3) (pv 0) (by rfl)) (pss_one (ps_ret pe_non)) pss_nil)
      (pss_cons (ps_set (i := 4) nd rfl (Or.inl rfl) (pe_bmK (K := K) rfl PySem.F.plainAttrs_list PySem.F.slot_list_index PySem.F.type_list_index (mt_indexS (K := K) rfl) (pv 0) (pa_cons (pv 3) pa_nil)))
      (pss_cons (ps_if (pt_cmpR op_leN (pe_op op_shl1 pe_int (pv 4)) (pv 2) (nomark _)) (pss_one (ps_ret pe_non)) pss_nil)
      (pss_one (ps_set (i := 2) nd rfl (Or.inl rfl) (pe_op op_orN (pv 2) (pe_op op_shl1 pe_int (pv 4)))))))))
      (pss_one (ps_ret (pv 2))))), ?_⟩
    refine ⟨_, rfl, wp, rfl, ⟨_, hw⟩, for_list (K := K) (xs := ws.map V.str) (fun i σ H' => H' = H ∧ ∃ (a : Nat) (v3 v4 : Option V), σ = [some (.ref np), some (.ref wp), some (vN a), v3, v4] ∧ a < 2 ^ nms.length ∧ ws.take i = namN nms a) ⟨rfl, 0, none, none, rfl, Nat.two_pow_pos _, rfl⟩ (fun i σ H' _ h => by rw [h.1]; exact hw) ?_ ?_⟩
    · rintro i v σ H' hv ⟨rfl, a, v3, v4, rfl, ha, et⟩
      rw [List.getElem?_map] at hv
      cases ew : ws[i]? with
      | none => rw [ew] at hv; cases hv
      | some x =>
        rw [ew] at hv
        obtain rfl := (Option.some.inj hv).symm
        refine ⟨_, rfl, _, rfl, np, _, rfl, .inl hn, rfl, flat_str _, _, rfl, ?_⟩
        rw [if_pos rfl, inV_str]
        by_cases hx : x ∈ nms
        · rw [decide_eq_true hx]
          refine iteF ?_
          obtain ⟨k, hk⟩ := List.getElem?_of_mem hx
          have hkl : k < nms.length := (List.getElem?_eq_some_iff.mp hk).1
          have exk : x = nms.getD k noS := by rw [List.getD_eq_getElem?_getD, hk]; rfl
          have pk : 2 ^ k < 2 ^ nms.length := Nat.pow_lt_pow_right (by decide) hkl
          refine ⟨_, rfl, .inl ⟨rfl, _, hn⟩, _, rfl, np, nms, k, rfl, hn, by have := NN.l7; omega, NN.nd, hkl, by rw [exk], ?_⟩
          have k7 := NN.l7
          refine ⟨_, rfl, k, rfl, rfl, by omega, _, rfl, 2 ^ k, a, rfl, rfl, _, rfl, ite2 (fun hc => ?_) (fun hc => ?_)⟩
          · have hc := of_decide_eq_true hc
            refine qn fun s hs e => ?_
            obtain ⟨k', hk', ek', lt⟩ := next_up NN hs ha e et ew
            rw [exk] at ek'
            have := nm_inj NN hkl hk' ek'
            subst this
            omega
          · have hc : a < 2 ^ k := Nat.lt_of_not_le fun z => hc (decide_eq_true z)
            refine ⟨_, rfl, _, rfl, k, rfl, rfl, by omega, a, 2 ^ k, rfl, rfl, rfl, a ||| 2 ^ k, _, _, rfl, Nat.or_lt_two_pow ha pk, ?_⟩
            rw [List.take_succ, ew, et, in_or NN hkl hc, ← exk]
            rfl
        · rw [decide_eq_false hx]
          refine iteT (qn fun s hs e => hx ?_)
          rw [e] at ew
          exact in_mem NN hs (List.mem_of_getElem? ew)
    · rintro σ H' ⟨rfl, a, v3, v4, rfl, ha, et⟩
      rw [lwm, List.take_length] at et
      exact ⟨_, rfl, qs a ha et⟩
noncomputable abbrev sNamesIn : Stmt := top 12
theorem scNamesIn : FnScope ["names", "some"] ["names", "some"] (defScope sNamesIn) := ⟨rfl, rfl, rfl, by decide +kernel, rfl, by decide +kernel, by decide +kernel⟩
theorem ok_namesin {f fC : Addr} {fd fdC : FuncData} (F : Fun K "names_in" "names_in" sNamesIn f fd) (GC : FnOk P w K mg base CX0 2 fC fdC ["some"] spCols) (mC : mg "columns_of" = some (.ref fC)) (kC : PySem.W.keepIn K (.ref fC) = true) (bC : Binds K fdC ["some"] []) : FnOk P w K mg base CX0 3 f fd ["names", "some"] (spNamesIn K) := by
  refine F.ok scNamesIn (fun vs H Q E h => ?_) (fun cdv A outer s H vs Q E hr h => ?_)
  · obtain ⟨np, nms, z, rfl, _⟩ := h
    rfl
  · obtain ⟨np, nms, z, rfl, hn, NN, hz, q⟩ := h
    have nd := scNamesIn.nd
    have hr2 : Room 2 _ := hr.mono (by decide)
    have z128 := small128 NN hz
    refine ⟨_, (pss_one (ps_ret (pe_comp (xs := ["column"]) (cs ["names", "some"] (defScope sNamesIn) rfl rfl (by decide +kernel)) rfl (pi_listK (K := K) rfl (pe_call GC hr2 rfl mC kC bC .nil pass0 (pa_cons (pv 1) pa_nil))) (fun _ _ _ => pg_name (i := 0) (show (["column", "names", "some"] : List Str).Nodup by decide +kernel) rfl (Or.inl rfl)) (fun _ _ _ => pts_nil) (fun _ _ _ => (pe_ix (ix_listK (K := K) rfl) (pv 1) (pv 0) (fun _ _ => rfl)))))), ?_⟩
    refine ⟨_, rfl, z, rfl, by omega, fun p hp => ⟨p, rfl, ⟨_, SqL.of upd_same⟩, ?_⟩⟩
    have s1 := Same.new (o := .lst ((colsN z).map vN)) hp
    have hp1 : (upd H p (.lst ((colsN z).map vN))) p = some (.lst ((colsN z).map vN)) := upd_same
    generalize upd H p (.lst ((colsN z).map vN)) = H1 at s1 hp1
    have lc : ((colsN z).map vN).length ≤ 7 := by
      have := nam_len NN hz
      unfold namN at this
      rw [List.length_map] at this ⊢
      exact this
    refine lc_list (K := K) (xs := (colsN z).map vN) (fun j acc H2 => H2 = H1 ∧ acc = (((colsN z).take j).map fun c => nms.getD c noS).map V.str) (by omega) ⟨rfl, rfl⟩ (fun j acc H2 hj h => ?_) (fun j v acc H2 hv h => ?_) (fun acc H2 h => ?_)
    · obtain ⟨rfl, rfl⟩ := h
      exact ⟨SqL.of hp1, by rw [List.length_map, List.length_map]; exact List.length_take_le _ _⟩
    · obtain ⟨rfl, rfl⟩ := h
      rw [List.getElem?_map] at hv
      cases ec : (colsN z)[j]? with
      | none => rw [ec] at hv; cases hv
      | some c =>
        rw [ec] at hv
        obtain rfl := (Option.some.inj hv).symm
        have hc := cols_lt NN hz (List.mem_of_getElem? ec)
        refine ⟨rfl, _, rfl, _, rfl, np, _, _, _, rfl, rfl, s1.seq hn, atI_nat (j := c) (v := V.str (nms.getD c noS)) (by rw [List.getElem?_map, (getD_nm hc).2]; rfl), rfl, ?_⟩
        rw [List.take_succ, ec, List.map_append, List.map_append]
        rfl
    obtain ⟨rfl, rfl⟩ := h
    rw [List.length_map, List.take_length]
    intro l hl
    exact q l _ (s1.trans (Same.new hl)) (s1.free hl) upd_same
noncomputable abbrev sShowSet : Stmt := top 13
theorem scShowSet : FnScope ["names", "some"] ["names", "some"] (defScope sShowSet) := ⟨rfl, rfl, rfl, by decide +kernel, rfl, by decide +kernel, by decide +kernel⟩
theorem ok_showset {f fNI : Addr} {fd fdNI : FuncData} (F : Fun K "show_set" "show_set" sShowSet f fd) (GNI : FnOk P w K mg base CX0 3 fNI fdNI ["names", "some"] (spNamesIn K)) (mNI : mg "names_in" = some (.ref fNI)) (kNI : PySem.W.keepIn K (.ref fNI) = true) (bNI : Binds K fdNI ["names", "some"] []) : FnOk P w K mg base CX0 4 f fd ["names", "some"] (spShowS K) := by
  refine F.ok scShowSet (fun vs H Q E h => ?_) (fun cdv A outer s H vs Q E hr h => ?_)
  · obtain ⟨np, nms, z, rfl, _⟩ := h
    rfl
  · obtain ⟨np, nms, z, rfl, hn, NN, hz, q⟩ := h
    have nd := scShowSet.nd
    have hr3 : Room 3 _ := hr.mono (by decide)
    refine ⟨_, (pss_cons (ps_if (pt_cmpR op_eqN (pv 1) pe_int (nomark _)) (pss_one (ps_ret pe_str)) pss_nil)
      (pss_one (ps_ret (pe_bm PySem.F.plainAttrs_str PySem.F.slot_str_join PySem.F.type_str_join mt_join pe_str (pa_cons (pe_call GNI hr3 rfl mNI kNI bNI .nil pass0 (pa_cons (pv 0) (pa_cons (pv 1) pa_nil))) pa_nil))))), ?_⟩
    refine ⟨_, rfl, z, 0, rfl, rfl, _, rfl, ite2 (fun hc => ?_) (fun hc => ?_)⟩
    · obtain rfl : z = 0 := of_decide_eq_true hc
      exact q _ (Same.refl _)
    · have z0 : z ≠ 0 := fun e => hc (decide_eq_true e)
      refine ⟨rfl, _, rfl, _, rfl, np, nms, z, rfl, hn, NN, hz, fun l H1 s1 hl0 hl => ?_⟩
      refine ⟨_, l, namN nms z, rfl, rfl, SqL.of hl, nam_ok NN hz, ?_⟩
      have e : showS nms z = Txt.join commaS (namN nms z) := by unfold showS; rw [if_neg z0, join_eq]
      have q1 := q H1 s1
      rw [e] at q1
      exact q1
end
end Own

namespace Own
open PySem L2
section
variable {P : Program} {w : World} {K : PySem.W.Frag} {mg : Str → Option Value} {base : Heap}
seal PySem.wpAny
noncomputable abbrev sReadSet : Stmt := top 14
theorem scReadSet : FnScope ["names", "text", "some"] ["names", "text"] (defScope sReadSet) := ⟨rfl, rfl, rfl, by decide +kernel, rfl, by decide +kernel, by decide +kernel⟩
theorem ok_readset {f fSN CST : Addr} {fd fdSN : FuncData} (F : Fun K "read_set" "read_set" sReadSet f fd) (GSN : FnOk P w K mg base CX0 1 fSN fdSN ["names", "words"] (spSetNamed K)) (mSN : mg "set_named" = some (.ref fSN)) (kSN : PySem.W.keepIn K (.ref fSN) = true) (bSN : Binds K fdSN ["names", "words"] []) (OST : Exc K "NoSet" CST) (zisinstance : mg "isinstance" = none) (zstr : mg "str" = none) : FnOk P w K mg base (CX1 P w) 2 f fd ["names", "text"] (spReadSet K CST) := by
  refine F.ok1 scReadSet (fun vs H Q E h => ?_) (fun cdv A outer s H vs Q E hr h => ?_)
  · obtain ⟨np, nms, t, rfl, _⟩ := h
    rfl
  · obtain ⟨np, nms, t, rfl, hn, NN, lt, ct, q0, q1, qe⟩ := h
    have nd := scReadSet.nd
    have hr1 : Room 1 _ := hr.mono (by decide)
    refine ⟨_, (pss_cons (ps_if (pt_not (pt_val (pe_callB (call_isK (K := K) rfl) (by rfl) zisinstance PyProof.Rows.boot_isinstance (pa_cons (pv 1) (pa_cons (pe_bltn (v := .ty "str") rfl zstr PyProof.Rows.boot_str rfl) pa_nil))))) (pss_one (ps_raise (EX := E) OST (by rfl) rfl (pa_cons pe_str pa_nil) (fun _ _ _ _ _ _ _ I hx hE => raise_out I hx hE))) pss_nil)
      (pss_cons (ps_if (pt_cmpR op_eq (pv 1) pe_str (nomark _)) (pss_one (ps_ret pe_int)) pss_nil)
      (pss_cons (ps_set (i := 2) nd rfl (Or.inl rfl) (pe_call GSN hr1 rfl mSN kSN bSN .nil pass0 (pa_cons (pv 0) (pa_cons (pe_bm PySem.F.plainAttrs_str PySem.F.slot_str_split PySem.F.type_str_split mt_split (pv 1) (pa_cons pe_str pa_nil)) pa_nil))))
      (pss_cons (ps_if (pt_cmpR op_isN (pv 2) pe_non (nomark _)) (pss_one (ps_raise (EX := E) OST (by rfl) rfl (pa_cons (pe_fsr (pv 1)) pa_nil) (fun _ _ _ _ _ _ _ I hx hE => raise_out I hx hE))) pss_nil)
      (pss_one (ps_ret (pv 2))))))), ?_⟩
    refine ⟨_, rfl, _, _, _, true, rfl, .str _, rfl, _, rfl, iteF ?_⟩
    refine ⟨_, rfl, rfl, _, rfl, ite2 (fun hc => ?_) (fun hc => ?_)⟩
    · have e : t = dashS := by
        have := of_decide_eq_true hc
        injection this
      exact q0 e
    · have td : t ≠ dashS := fun e => hc (decide_eq_true (by rw [e]; rfl))
      have sl := split_len t
      refine ⟨_, rfl, _, rfl, rfl, t, commaS, rfl, rfl, rfl, by omega, by omega, fun D hD => ?_⟩
      have s1 := Same.new (o := .lst ((Txt.split t commaS).map V.str)) hD
      refine ⟨np, D, nms, Txt.split t commaS, rfl, s1.seq hn, NN, SqL.of upd_same, by omega, fun s hs e => ?_, fun no => ?_⟩
      · exact ⟨_, rfl, rfl, _, rfl, iteF ⟨_, rfl, q1 s _ s1 td hs e⟩⟩
      · refine ⟨_, rfl, rfl, _, rfl, iteT ?_⟩
        have rl := StrLaws.reprText_len t fun c hc' => Nat.lt_of_lt_of_le (ct c hc') (by decide)
        refine ⟨_, rfl, t, rfl, by omega, fun y => ?_⟩
        exact ⟨(by show 1 ≤ sizeLine; decide), qe ⟨td, no⟩ _ s1⟩
end
end Own

namespace L2
open PySem PySem.Spec PyProof.Rows
/-! ### the names that the law draws; the texts that write no set (k82) -/
noncomputable def sng (c : Nat) : Str := ⟨#[c]⟩
noncomputable def letS : Str := "abcdefghijklmnopqrstuvwxyz"
theorem let_at : ∀ i, i < 26 → letS.cps.toList[i]? = some (97 + i) := by decide +kernel
theorem join_sng : ∀ l : List Nat, Str.join noS (l.map sng) = ⟨l.toArray⟩
  | [] => rfl
  | [c] => rfl
  | c :: d :: r => by
    have h := join_sng (d :: r)
    have e : Str.join noS ((c :: d :: r).map sng) = sng c ++ noS ++ Str.join noS ((d :: r).map sng) := rfl
    rw [e, h]
    apply congrArg Str.mk
    show (#[c] ++ #[]) ++ (d :: r).toArray = (c :: d :: r).toArray
    simp
theorem sng_ok (l : List Nat) (h : l.length ≤ 100) : JoinOk noS (l.map sng) = true := by
  refine join_ok ?_
  have h2 := sum_le (d := 1) (ys := l.map sng) fun y hy => by
    obtain ⟨c, _, rfl⟩ := List.mem_map.mp hy
    exact Nat.le_refl _
  have e : noS.length = 0 := rfl
  rw [List.length_map] at h2 ⊢
  rw [e]
  omega
noncomputable def chkNM (l : List Str) : Bool := decide (1 ≤ l.length) && decide (l.length ≤ 7) && decide l.Nodup && l.all fun n => !n.cps.toList.isEmpty && n.cps.toList.all (fun c => decide (97 ≤ c) && decide (c ≤ 122)) && decide (n.length ≤ 8)
theorem chk_nm {l : List Str} (h : chkNM l = true) : NM l := by
  unfold chkNM at h
  simp only [Bool.and_eq_true, decide_eq_true_iff, List.all_eq_true, Bool.not_eq_true', List.isEmpty_eq_false_iff] at h
  obtain ⟨⟨⟨h1, h2⟩, h3⟩, h4⟩ := h
  exact ⟨h1, h2, h3, fun n hn => (h4 n hn).1.1, fun n hn c hc => (h4 n hn).1.2 c hc, fun n hn => (h4 n hn).2⟩
noncomputable def oddL (r : Nat) : List Nat := (List.range 8).map fun j => 97 + (r + 3 * j) % 26
noncomputable def oddT (r : Nat) : Str := ⟨(oddL r).toArray⟩
noncomputable def oddN (r n : Nat) : List Str := (List.range n).map fun k => Txt.slice (oddT r) (some ((k % 5 : Nat) : Int)) (some ((k % 5 + 1 + k / 5 : Nat) : Int))
theorem odd_nm : ∀ r, r < 26 → ∀ n, n < 8 → 1 ≤ n → chkNM (oddN r n) = true := by decide +kernel
noncomputable def evB (c size : Nat) : List Nat := (List.range size).map fun j => 97 + (c / (j + 1) + j * j) % 26
noncomputable def evL (c size at_ k : Nat) : List Nat := (evB c size).set at_ (97 + (c / 96 + k) % 26)
noncomputable def evS (c size at_ k : Nat) : Str := ⟨(evL c size at_ k).toArray⟩
noncomputable def evN (c size at_ n : Nat) : List Str := (List.range n).map (evS c size at_)
theorem ev_len (c size at_ k : Nat) : (evL c size at_ k).length = size := by unfold evL evB; rw [List.length_set, List.length_map, List.length_range]
theorem ev_nm {c size at_ n : Nat} (h : at_ < size) (hs : size ≤ 8) (h1 : 1 ≤ n) (h7 : n ≤ 7) : NM (evN c size at_ n) := by
  have ln : (evN c size at_ n).length = n := by unfold evN; rw [List.length_map, List.length_range]
  have low : ∀ k, ∀ x ∈ evL c size at_ k, 97 ≤ x ∧ x ≤ 122 := fun k x hx => by
    unfold evL at hx
    rcases List.mem_or_eq_of_mem_set hx with hx | rfl
    · obtain ⟨j, _, rfl⟩ := List.mem_map.mp hx
      omega
    · omega
  have mem : ∀ x ∈ evN c size at_ n, ∃ k, x = evS c size at_ k := fun x hx => by
    obtain ⟨k, _, rfl⟩ := List.mem_map.mp hx
    exact ⟨k, rfl⟩
  have tl : ∀ k, (evS c size at_ k).cps.toList = evL c size at_ k := fun k => List.toList_toArray ..
  refine ⟨by omega, by omega, ?_, fun x hx => ?_, fun x hx => ?_, fun x hx => ?_⟩
  · unfold evN
    refine List.pairwise_map.mpr (List.Pairwise.imp_of_mem (fun {a b} ha hb (hab : a < b) e => ?_) (List.pairwise_lt_range))
    have ha := List.mem_range.mp ha
    have hb := List.mem_range.mp hb
    have e2 : evL c size at_ a = evL c size at_ b := by rw [← tl, ← tl, e]
    have g : ∀ k, (evL c size at_ k)[at_]? = some (97 + (c / 96 + k) % 26) := fun k => by
      unfold evL
      rw [List.getElem?_set_self (by unfold evB; rw [List.length_map, List.length_range]; exact h)]
    have e3 := g a
    rw [e2, g b] at e3
    have := Option.some.inj e3
    omega
  · obtain ⟨k, rfl⟩ := mem x hx
    rw [tl]
    intro z
    have := ev_len c size at_ k
    rw [z] at this
    simp at this
    omega
  · obtain ⟨k, rfl⟩ := mem x hx
    rw [tl]
    exact low k
  · obtain ⟨k, rfl⟩ := mem x hx
    show (evL c size at_ k).toArray.size ≤ 8
    rw [List.size_toArray, ev_len]
    exact hs
/-! upper -/
theorem upper_low {z : Str} (h : ∀ c ∈ z.cps.toList, 97 ≤ c ∧ c ≤ 122) : (Txt.upper z).cps.toList = z.cps.toList.map (· - 32) := by
  have up : ∀ k, k < 26 → Unicode.upperOf (97 + k) = [65 + k] := by decide +kernel
  have e : (Txt.upper z).cps = (z.cps.mapIdx fun _ c => (Unicode.upperOf c).toArray).flatten := rfl
  rw [e, Array.toList_flatten, Array.toList_mapIdx]
  have go : ∀ l : List Nat, (∀ c ∈ l, 97 ≤ c ∧ c ≤ 122) → ((l.map fun c => (Unicode.upperOf c).toArray).map Array.toList).flatten = l.map (· - 32) := by
    intro l
    induction l with
    | nil => intro _; rfl
    | cons c l ih =>
      intro hl
      have hc := hl c (List.mem_cons_self ..)
      have u := up (c - 97) (by omega)
      rw [show 97 + (c - 97) = c by omega] at u
      simp only [List.map_cons, List.flatten_cons]
      rw [ih fun x hx => hl x (List.mem_cons_of_mem _ hx), u]
      show (65 + (c - 97)) :: l.map (· - 32) = (c - 32) :: l.map (· - 32)
      rw [show 65 + (c - 97) = c - 32 by omega]
  have mi : ∀ l : List Nat, l.mapIdx (fun _ c => (Unicode.upperOf c).toArray) = l.map fun c => (Unicode.upperOf c).toArray := fun l => by
    apply List.ext_getElem
    · simp
    · intro i h1 h2
      simp
  rw [mi]
  exact go _ h
/-! plain texts -/
structure Pl (n : Nat) (t : Str) : Prop where
  len : t.length ≤ n
  low : ∀ c ∈ t.cps.toList, c < 256
theorem Pl.app {a b : Str} {n m : Nat} (h : Pl n a) (h' : Pl m b) : Pl (n + m) (a ++ b) := by
  refine ⟨?_, fun c hc => ?_⟩
  · have := h.len
    have := h'.len
    rw [Str.length_append]
    omega
  · rw [Str.cps_append, Array.toList_append] at hc
    rcases List.mem_append.mp hc with hc | hc
    · exact h.low c hc
    · exact h'.low c hc
theorem Pl.mono {a : Str} {n m : Nat} (h : Pl n a) (l : n ≤ m := by decide) : Pl m a := ⟨Nat.le_trans h.len l, h.low⟩
theorem Pl.line {a b : Str} {n m : Nat} (h : Pl n a) (h' : Pl m b) (l : n + m ≤ 1000 := by decide) : a.length + b.length ≤ sizeLine := by
  have := h.len
  have := h'.len
  have := sizeLine_eq
  omega
section
variable {nms : List Str} {s : Nat}
theorem nm_pl (N : NM nms) {w : Str} (h : w ∈ nms) : Pl 8 w := ⟨N.len w h, fun c hc => by have := N.low w h c hc; omega⟩
theorem okC_lt {c : Nat} (h : okC c) : c < 256 := by rcases h with h | h <;> omega
theorem show_pl (N : NM nms) (hs : s < 2 ^ nms.length) : Pl 70 (showS nms s) := by
  refine ⟨show_len N hs, fun c hc => ?_⟩
  unfold showS at hc
  split at hc
  · have : c = 45 := List.mem_singleton.mp hc
    omega
  · exact okC_lt (join_signs (fun p hp => nm_okC N (in_mem N hs hp)) c hc)
theorem upper_pl (N : NM nms) {w : Str} (h : w ∈ nms) : Pl 8 (Txt.upper w) := by
  have e := upper_low (N.low w h)
  refine ⟨?_, fun c hc => ?_⟩
  · have h1 : (Txt.upper w).cps.toList.length = w.cps.toList.length := by rw [e, List.length_map]
    have h2 := N.len w h
    rw [Array.length_toList, Array.length_toList] at h1
    have : (Txt.upper w).length = w.length := h1
    omega
  · rw [e] at hc
    obtain ⟨d, hd, rfl⟩ := List.mem_map.mp hc
    have := N.low w h d hd
    omega
theorem mem_l {a b : Str} {c : Nat} (h : c ∈ a.cps.toList) : c ∈ (a ++ b).cps.toList := by
  rw [Str.cps_append, Array.toList_append]
  exact List.mem_append_left _ h
theorem mem_r {a b : Str} {c : Nat} (h : c ∈ b.cps.toList) : c ∈ (a ++ b).cps.toList := by
  rw [Str.cps_append, Array.toList_append]
  exact List.mem_append_right _ h
theorem bad_sign2 (N : NM nms) {t : Str} {c d : Nat} (h : c ∈ t.cps.toList) (h2 : d ∈ t.cps.toList) (hc : ¬ okC c) (hd : d ≠ 45) : NoSetT nms t :=
  bad_sign N (fun e => by rw [e] at h2; exact hd (List.mem_singleton.mp h2)) h hc
theorem bad_word (N : NM nms) {ps : List Str} (hf : ∀ p ∈ ps, ∀ c ∈ p.cps.toList, 97 ≤ c ∧ c ≤ 122) {w : Str} (hw : w ∈ ps) (no : w ∉ nms) : NoSetT nms (Str.join commaS ps) := by
  refine bad_piece N (fun z => by rw [z] at hw; cases hw) (fun p hp z => ?_) (fun z => ?_) hw no
  · have := hf p hp 44 z
    omega
  · have h45 : (45 : Nat) ∈ dashS.cps.toList := List.mem_singleton.mpr rfl
    rw [← z] at h45
    rcases join_signs (fun p hp c hc => .inr (hf p hp c hc)) 45 h45 with h | h <;> omega
theorem no_empty (N : NM nms) : noS ∉ nms := fun h => N.ne noS h rfl
theorem join_snoc : ∀ {ps : List Str}, ps ≠ [] → ∀ w, Str.join commaS (ps ++ [w]) = Str.join commaS ps ++ commaS ++ w
  | [], h, _ => absurd rfl h
  | [p], _, w => rfl
  | p :: q :: r, _, w => by
    have h := join_snoc (ps := q :: r) (List.cons_ne_nil _ _) w
    have e1 : Str.join commaS (p :: q :: r ++ [w]) = p ++ commaS ++ Str.join commaS (q :: r ++ [w]) := rfl
    have e2 : Str.join commaS (p :: q :: r) = p ++ commaS ++ Str.join commaS (q :: r) := rfl
    rw [e1, e2, h]
    apply congrArg Str.mk
    show (p.cps ++ commaS.cps) ++ ((Str.join commaS (q :: r)).cps ++ commaS.cps ++ w.cps) = (p.cps ++ commaS.cps) ++ (Str.join commaS (q :: r)).cps ++ commaS.cps ++ w.cps
    simp only [Array.append_assoc]
theorem join_cons {ps : List Str} (h : ps ≠ []) (w : Str) : Str.join commaS (w :: ps) = w ++ commaS ++ Str.join commaS ps := by
  cases ps with
  | nil => exact absurd rfl h
  | cons p r => rfl
theorem emp_app (a : Str) : noS ++ a = a := by
  apply congrArg Str.mk
  show #[] ++ a.cps = a.cps
  simp
theorem app_emp (a : Str) : a ++ noS = a := by
  apply congrArg Str.mk
  show a.cps ++ #[] = a.cps
  simp
theorem low_names (N : NM nms) (hs : s < 2 ^ nms.length) : ∀ p ∈ namN nms s, ∀ c ∈ p.cps.toList, 97 ≤ c ∧ c ≤ 122 := fun p hp => N.low p (in_mem N hs hp)
/-- a set's text with a word behind that no column has -/
theorem bad_behind (N : NM nms) (hs : s < 2 ^ nms.length) {w : Str} (no : w ∉ nms) (hw : ∀ c ∈ w.cps.toList, 97 ≤ c ∧ c ≤ 122) : NoSetT nms (showS nms s ++ commaS ++ w) := by
  by_cases h0 : s = 0
  · refine bad_sign2 (c := 45) (d := 44) N (mem_l (mem_l ?_)) (mem_l (mem_r (List.mem_singleton.mpr rfl))) (by unfold okC; omega) (by decide)
    unfold showS
    rw [if_pos h0]
    exact List.mem_singleton.mpr rfl
  · have e : showS nms s ++ commaS ++ w = Str.join commaS (namN nms s ++ [w]) := by
      rw [join_snoc (in_ne (small128 N hs) h0)]
      unfold showS
      rw [if_neg h0]
    rw [e]
    refine bad_word N (fun p hp => ?_) (List.mem_append_right _ (List.mem_singleton.mpr rfl)) no
    rcases List.mem_append.mp hp with hp | hp
    · exact low_names N hs p hp
    · rw [List.mem_singleton.mp hp]; exact hw
theorem bad_ahead (N : NM nms) (hs : s < 2 ^ nms.length) : NoSetT nms (commaS ++ showS nms s) := by
  by_cases h0 : s = 0
  · refine bad_sign2 (c := 45) (d := 44) N (mem_r ?_) (mem_l (List.mem_singleton.mpr rfl)) (by unfold okC; omega) (by decide)
    unfold showS
    rw [if_pos h0]
    exact List.mem_singleton.mpr rfl
  · have e : commaS ++ showS nms s = Str.join commaS (noS :: namN nms s) := by
      rw [join_cons (in_ne (small128 N hs) h0), emp_app]
      unfold showS
      rw [if_neg h0]
    rw [e]
    refine bad_word N (fun p hp => ?_) (List.mem_cons_self ..) (no_empty N)
    rcases List.mem_cons.mp hp with rfl | hp
    · intro c hc; cases hc
    · exact low_names N hs p hp
end
/-! a list of texts as data -/
theorem same_dS (a b : Str) : same (PyData.str a) (PyData.str b) = decide (a = b) := by
  simp only [same]
  rw [Bool.eq_iff_iff]; simp
theorem noMix_dS (a b : Str) : SeqAt.noMix (PyData.str a) (PyData.str b) = true := by simp [SeqAt.noMix]
theorem canLay_dS {a : Str} (h : ∀ c ∈ a.cps.toList, c < 256) : PyData.canLay0 (PyData.str a) = true := by
  simp only [PyData.canLay0]
  unfold PyData.strOk
  rw [← Array.all_toList, List.all_eq_true]
  intro c hc
  have := h c hc
  exact decide_eq_true (by omega)
theorem canLay_strs : ∀ ws : List Str, (∀ w ∈ ws, ∀ c ∈ w.cps.toList, c < 256) → PyData.canLayAll0 (ws.map PyData.str) = true
  | [], _ => by simp [PyData.canLayAll0]
  | x :: xs, h => by
    have h1 := canLay_dS (h x (List.mem_cons_self ..))
    have h2 := canLay_strs xs fun w hw => h w (List.mem_cons_of_mem _ hw)
    simp only [List.map_cons, PyData.canLayAll0]
    rw [h1, h2]; rfl
theorem depth_dS (a : Str) : PyData.depth (PyData.str a) ≤ 10 := by simp [PyData.depth]
theorem shaped_strs {ws : List Str} (h : ∀ w ∈ ws, ∀ c ∈ w.cps.toList, c < 256) : SeqAt.shaped (.list (ws.map PyData.str)) = true := by
  have h2 : PyData.depth (.list (ws.map PyData.str)) ≤ 64 := by
    have := depthAll_map depth_dS ws
    simp only [PyData.depth]
    omega
  show (PyData.canLay0 (.list (ws.map PyData.str)) && decide (PyData.depth (.list (ws.map PyData.str)) ≤ 64)) = true
  rw [Bool.and_eq_true]
  exact ⟨by simp only [PyData.canLay0]; exact canLay_strs ws h, decide_eq_true h2⟩
theorem strs_dv {K : PySem.W.Frag} {H : Hp} : ∀ ws : List Str, DVs K H (ws.map V.str) (ws.map PyData.str)
  | [] => .nil
  | w :: ws => .cons (.str _) (strs_dv ws)
end L2

namespace L2
open PySem PySem.Spec PyProof.Rows
noncomputable def words8 : List Str := ["a", "b", "c", "d", "e", "f", "g", "zz"]
theorem words8_low : ∀ w ∈ words8, (∀ c ∈ w.cps.toList, 97 ≤ c ∧ c ≤ 122) ∧ w.length ≤ 8 := by decide +kernel
theorem words8_nd : words8.Nodup := by decide +kernel
noncomputable def bentL (good first last other : Str) : List Str := [("" : Str), ("," : Str) ++ good, good ++ ("," : Str), good ++ ("," : Str) ++ other, other, good ++ ("," : Str) ++ Txt.upper first, (" " : Str) ++ good, good ++ (" " : Str), last ++ ("," : Str) ++ first, first ++ (",," : Str) ++ last, ("-,-" : Str), ("--" : Str), ("-," : Str) ++ first, first ++ (",-" : Str), ("- " : Str), first ++ (" " : Str) ++ last, first ++ ("," : Str) ++ first, good ++ (";" : Str), first ++ (", " : Str) ++ last]
theorem fm {α : Type} {p : α → Prop} {a : α} {l : List α} (h : p a) (h2 : ∀ x ∈ l, p x) : ∀ x ∈ a :: l, p x := List.forall_mem_cons.mpr ⟨h, h2⟩
section
variable {nms : List Str} {s : Nat}
theorem other8 (N : NM nms) : ∃ o r, words8.filter (fun w => !decide (w ∈ nms)) = o :: r ∧ o ∉ nms ∧ (∀ c ∈ o.cps.toList, 97 ≤ c ∧ c ≤ 122) ∧ Pl 8 o := by
  cases e : words8.filter (fun w => !decide (w ∈ nms)) with
  | nil =>
    exfalso
    have h := words8_nd.length_le_of_subset (l₂ := nms) fun w hw => by
      have := List.filter_eq_nil_iff.mp e w hw
      simpa using this
    have := N.l7
    have e8 : words8.length = 8 := rfl
    omega
  | cons o r =>
    have hm : o ∈ words8.filter (fun w => !decide (w ∈ nms)) := by rw [e]; exact List.mem_cons_self ..
    obtain ⟨h1, h2⟩ := List.mem_filter.mp hm
    obtain ⟨w1, w2⟩ := words8_low o h1
    exact ⟨o, r, rfl, by simpa using h2, w1, ⟨w2, fun c hc => by have := w1 c hc; omega⟩⟩
theorem bent_bad (N : NM nms) (hs : s < 2 ^ nms.length) {other : Str} (no : other ∉ nms) (ho : ∀ c ∈ other.cps.toList, 97 ≤ c ∧ c ≤ 122) (po : Pl 8 other) :
    ∀ t ∈ bentL (showS nms s) (nms.getD 0 noS) (nms.getD (nms.length - 1) noS) other, NoSetT nms t ∧ Pl 300 t := by
  have l1 := N.l1
  have hi0 : 0 < nms.length := by omega
  have hi1 : nms.length - 1 < nms.length := by omega
  have mF := (getD_nm hi0).1
  have mL := (getD_nm hi1).1
  have pg := show_pl N hs
  have pF := nm_pl N mF
  have pL := nm_pl N mL
  have pu := upper_pl N mF
  obtain ⟨u, hu, hu2⟩ : ∃ u, u ∈ (Txt.upper (nms.getD 0 noS)).cps.toList ∧ 65 ≤ u ∧ u ≤ 90 := by
    rw [upper_low (N.low _ mF)]
    have ne := N.ne _ mF
    have low := N.low _ mF
    cases e : (nms.getD 0 noS).cps.toList with
    | nil => exact absurd e ne
    | cons c r =>
      rw [e] at low
      have := low c (List.mem_cons_self ..)
      exact ⟨c - 32, List.mem_map.mpr ⟨c, List.mem_cons_self .., rfl⟩, by omega, by omega⟩
  have b9 : NoSetT nms (nms.getD 0 noS ++ (",," : Str) ++ nms.getD (nms.length - 1) noS) := by
    have h := bad_word (ps := [nms.getD 0 noS, noS, nms.getD (nms.length - 1) noS]) N (fun p hp => by
      rcases List.mem_cons.mp hp with rfl | hp
      · exact N.low _ mF
      · rcases List.mem_cons.mp hp with rfl | hp
        · intro c hc; cases hc
        · rw [List.mem_singleton.mp hp]; exact N.low _ mL) (List.mem_cons_of_mem _ (List.mem_cons_self ..)) (no_empty N)
    have e : Str.join commaS [nms.getD 0 noS, noS, nms.getD (nms.length - 1) noS] = nms.getD 0 noS ++ (",," : Str) ++ nms.getD (nms.length - 1) noS := by
      apply congrArg Str.mk
      show ((nms.getD 0 noS).cps ++ #[44]) ++ ((#[] ++ #[44]) ++ (nms.getD (nms.length - 1) noS).cps) = (nms.getD 0 noS).cps ++ #[44, 44] ++ (nms.getD (nms.length - 1) noS).cps
      generalize (nms.getD 0 noS).cps = a
      generalize (nms.getD (nms.length - 1) noS).cps = b
      apply Array.toList_inj.mp
      simp only [Array.toList_append, List.append_assoc]
      rfl
    rw [← e]
    exact h
  unfold bentL
  refine fm ⟨bad_word (ps := [noS]) N (fun p hp => by rw [List.mem_singleton.mp hp]; intro c hc; cases hc) (List.mem_singleton.mpr rfl) (no_empty N), Pl.mono ((show Pl 3 ("" : Str) from ⟨by decide, by decide⟩))⟩ ?_
  refine fm ⟨bad_ahead N hs, Pl.mono ((show Pl 3 ("," : Str) from ⟨by decide, by decide⟩).app pg)⟩ ?_
  refine fm ⟨(by have := bad_behind (w := noS) N hs (no_empty N) (fun c hc => by cases hc); rw [app_emp] at this; exact this), Pl.mono (pg.app (show Pl 3 ("," : Str) from ⟨by decide, by decide⟩))⟩ ?_
  refine fm ⟨bad_behind N hs no ho, Pl.mono ((pg.app (show Pl 3 ("," : Str) from ⟨by decide, by decide⟩)).app po)⟩ ?_
  refine fm ⟨bad_word (ps := [other]) N (fun p hp => by rw [List.mem_singleton.mp hp]; exact ho) (List.mem_singleton.mpr rfl) no, Pl.mono (po)⟩ ?_
  refine fm ⟨bad_sign2 (c := u) (d := 44) N (mem_r hu) (mem_l (mem_r (by decide))) (by unfold okC; omega) (by decide), Pl.mono ((pg.app (show Pl 3 ("," : Str) from ⟨by decide, by decide⟩)).app pu)⟩ ?_
  refine fm ⟨bad_sign2 (c := 32) (d := 32) N (mem_l (by decide)) (mem_l (by decide)) (by unfold okC; omega) (by decide), Pl.mono ((show Pl 3 (" " : Str) from ⟨by decide, by decide⟩).app pg)⟩ ?_
  refine fm ⟨bad_sign2 (c := 32) (d := 32) N (mem_r (by decide)) (mem_r (by decide)) (by unfold okC; omega) (by decide), Pl.mono (pg.app (show Pl 3 (" " : Str) from ⟨by decide, by decide⟩))⟩ ?_
  refine fm ⟨bad_two N hi1 hi0 (Nat.zero_le _), Pl.mono ((pL.app (show Pl 3 ("," : Str) from ⟨by decide, by decide⟩)).app pF)⟩ ?_
  refine fm ⟨b9, Pl.mono ((pF.app (show Pl 3 (",," : Str) from ⟨by decide, by decide⟩)).app pL)⟩ ?_
  refine fm ⟨bad_sign2 (c := 45) (d := 44) N (by decide) (by decide) (by unfold okC; omega) (by decide), Pl.mono ((show Pl 3 ("-,-" : Str) from ⟨by decide, by decide⟩))⟩ ?_
  refine fm ⟨bad_sign (c := 45) N (by decide) (by decide) (by unfold okC; omega), Pl.mono ((show Pl 3 ("--" : Str) from ⟨by decide, by decide⟩))⟩ ?_
  refine fm ⟨bad_sign2 (c := 45) (d := 44) N (mem_l (by decide)) (mem_l (by decide)) (by unfold okC; omega) (by decide), Pl.mono ((show Pl 3 ("-," : Str) from ⟨by decide, by decide⟩).app pF)⟩ ?_
  refine fm ⟨bad_sign2 (c := 45) (d := 44) N (mem_r (by decide)) (mem_r (by decide)) (by unfold okC; omega) (by decide), Pl.mono (pF.app (show Pl 3 (",-" : Str) from ⟨by decide, by decide⟩))⟩ ?_
  refine fm ⟨bad_sign2 (c := 32) (d := 32) N (by decide) (by decide) (by unfold okC; omega) (by decide), Pl.mono ((show Pl 3 ("- " : Str) from ⟨by decide, by decide⟩))⟩ ?_
  refine fm ⟨bad_sign2 (c := 32) (d := 32) N (mem_l (mem_r (by decide))) (mem_l (mem_r (by decide))) (by unfold okC; omega) (by decide), Pl.mono ((pF.app (show Pl 3 (" " : Str) from ⟨by decide, by decide⟩)).app pL)⟩ ?_
  refine fm ⟨bad_two N hi0 hi0 (Nat.le_refl _), Pl.mono ((pF.app (show Pl 3 ("," : Str) from ⟨by decide, by decide⟩)).app pF)⟩ ?_
  refine fm ⟨bad_sign2 (c := 59) (d := 59) N (mem_r (by decide)) (mem_r (by decide)) (by unfold okC; omega) (by decide), Pl.mono (pg.app (show Pl 3 (";" : Str) from ⟨by decide, by decide⟩))⟩ ?_
  refine fm ⟨bad_sign2 (c := 32) (d := 32) N (mem_l (mem_r (by decide))) (mem_l (mem_r (by decide))) (by unfold okC; omega) (by decide), Pl.mono ((pF.app (show Pl 3 (", " : Str) from ⟨by decide, by decide⟩)).app pL)⟩ ?_
  intro x hx
  cases hx
end
theorem toolong8 {n : Nat} (h : n ≤ 8) : Builtin.Str.tooLong n = false := by
  unfold Builtin.Str.tooLong
  have := sizeLine_eq
  exact decide_eq_false (by omega)
noncomputable def spNames82 : Sp := fun vs H Q _ => ∃ c n : Nat, vs = [vN c, vN n] ∧ 1 ≤ n ∧ n ≤ 7 ∧ ∀ (nms : List Str) (l : Addr) (H' : Hp), NM nms → nms.length = n → Same H H' → H l = none → H' l = some (.lst (nms.map V.str)) → Q (.ref l) H'
noncomputable def spBent82 (K : PySem.W.Frag) : Sp := fun vs H Q _ => ∃ (np : Addr) (nms : List Str) (s c : Nat), vs = [.ref np, vN s, vN c] ∧ NAt K H np nms ∧ NM nms ∧ s < 2 ^ nms.length ∧ ∀ (t : Str) (H' : Hp), NoSetT nms t → Pl 300 t → Same H H' → Q (.str t) H'
noncomputable def spRefusedS (K : PySem.W.Frag) : Sp := fun vs H Q _ => ∃ (np : Addr) (nms : List Str) (t : Str) (b : Bool), vs = [.ref np, .str t, .bl b] ∧ NAt K H np nms ∧ NM nms ∧ NoSetT nms t ∧ Pl 300 t ∧ ∀ H', Same H H' → Q (.bl true) H'
end L2

namespace L2
open PySem PySem.Spec PyProof.Rows
theorem Same.over {H H' : Hp} {p : Addr} {o : HO} (s : Same H H') (h : H p = Option.none) : Same H (upd H' p o) := fun a x hx => by
  rw [upd_ne (fun z => by rw [z, h] at hx; cases hx)]
  exact s a x hx
theorem op_notInKS {X : Cx} {K : PySem.W.Frag} (h : X.K = K) : OpR X (compareOp .NotIn) (rIn K true) := h ▸ op_notIn_seq
theorem ixN_nat {n j : Nat} (h : j < n) : ixN n (j : Int) = some j := by
  unfold ixN
  rw [if_pos (by omega), if_pos (by omega)]; simp
theorem let_size : letS.length ≤ sizeLine := by rw [sizeLine_eq]; decide
theorem rg2 {n i : Nat} (h : i < n) : (List.range n)[i]? = some i := by rw [List.getElem?_eq_getElem (by rw [List.length_range]; exact h), List.getElem_range]
theorem oddL_at {r i : Nat} (h : i < 8) : (oddL r)[i]? = some (97 + (r + 3 * i) % 26) := by
  unfold oddL
  rw [List.getElem?_map, rg2 h]; rfl
theorem evB_at {c size i : Nat} (h : i < size) : (evB c size)[i]? = some (97 + (c / (i + 1) + i * i) % 26) := by
  unfold evB
  rw [List.getElem?_map, rg2 h]; rfl
theorem oddN_snoc (r i : Nat) : oddN r (i + 1) = oddN r i ++ [Txt.slice (oddT r) (some ((i % 5 : Nat) : Int)) (some ((i % 5 + 1 + i / 5 : Nat) : Int))] := by
  unfold oddN
  rw [List.range_succ, List.map_append]; rfl
theorem evN_snoc (c size at_ i : Nat) : evN c size at_ (i + 1) = evN c size at_ i ++ [evS c size at_ i] := by
  unfold evN
  rw [List.range_succ, List.map_append]; rfl
theorem sizes6 : ∀ n, n < 6 → ∃ z : Nat, ([vN 1, vN 2, vN 3, vN 5, vN 7, vN 8] : List V)[n]? = some (vN z) ∧ 1 ≤ z ∧ z ≤ 8
  | 0, _ => ⟨1, rfl, by decide, by decide⟩
  | 1, _ => ⟨2, rfl, by decide, by decide⟩
  | 2, _ => ⟨3, rfl, by decide, by decide⟩
  | 3, _ => ⟨5, rfl, by decide, by decide⟩
  | 4, _ => ⟨7, rfl, by decide, by decide⟩
  | 5, _ => ⟨8, rfl, by decide, by decide⟩
theorem last_at {l : List Str} (h : 0 < l.length) : atI (l.map V.str) (-1) = some (V.str (l.getD (l.length - 1) noS)) := by
  have e : l = l.dropLast ++ [l.getD (l.length - 1) noS] := by
    conv => lhs; rw [← List.dropLast_concat_getLast (fun z : l = [] => by rw [z] at h; exact absurd h (by decide))]
    congr 2
    rw [List.getD_eq_getElem?_getD, List.getElem?_eq_getElem (by omega), List.getLast_eq_getElem]; rfl
  have e2 : l.map V.str = l.dropLast.map V.str ++ [V.str (l.getD (l.length - 1) noS)] := by
    conv => lhs; rw [e]
    rw [List.map_append]; rfl
  rw [e2]
  exact atI_last _ _
end L2

namespace Own
open PySem L2
section
variable {P : Program} {w : World} {K : PySem.W.Frag} {mg : Str → Option Value} {base : Heap}
seal PySem.wpAny
noncomputable abbrev sNames : Stmt := top 17
theorem scNames : FnScope ["_law_cell", "_law_count", "_law_letters", "_law_names_here", "_law_text", "_law_k", "_law_size", "_law_at", "_law_signs"] ["_law_cell", "_law_count"] (defScope sNames) := ⟨rfl, rfl, rfl, by decide +kernel, rfl, by decide +kernel, by decide +kernel⟩
theorem ok_names {f : Addr} {fd : FuncData} (F : Fun K "_law_names" "_law_names" sNames f fd) (zrange : mg "range" = none) : FnOk P w K mg base CX0 1 f fd ["_law_cell", "_law_count"] spNames82 := by
  refine F.ok scNames (fun vs H Q E h => ?_) (fun cdv A outer s H vs Q E hr h => ?_)
  · obtain ⟨c, n, rfl, _⟩ := h
    rfl
  · obtain ⟨c, n, rfl, n1, n7, q⟩ := h
    have nd := scNames.nd
    refine ⟨_, (pss_cons (ps_set (i := 2) nd rfl (Or.inr rfl) pe_str)
      (pss_cons (ps_set (i := 3) nd rfl (Or.inl rfl) (pe_lst pa_nil))
      (pss_cons (ps_if (pt_cmpR op_eqN (pe_op op_modN' (pv 0) pe_int) pe_int (nomark _)) (pss_cons (ps_set (i := 4) nd rfl (Or.inl rfl) (pe_bm PySem.F.plainAttrs_str PySem.F.slot_str_join PySem.F.type_str_join mt_join pe_str (pa_cons (pe_comp (xs := ["_law_j"]) (cs ["_law_cell", "_law_count", "_law_letters", "_law_names_here", "_law_text", "_law_k", "_law_size", "_law_at", "_law_signs"] (defScope sNames) rfl rfl (by decide +kernel)) rfl (pi_range1 rfl zrange (pa_cons pe_int pa_nil)) (fun _ _ _ => pg_name (i := 0) (show (["_law_j", "_law_cell", "_law_count", "_law_letters", "_law_names_here", "_law_text", "_law_k", "_law_size", "_law_at", "_law_signs"] : List Str).Nodup by decide +kernel) rfl (Or.inl rfl)) (fun _ _ _ => pts_nil) (fun _ _ _ => (pe_ix ix_str (pv 3) (pe_op op_modN' (pe_op op_addN (pe_op op_fdivN' (pv 1) pe_int) (pe_op op_mulN pe_int (pv 0))) pe_int) (fun _ _ => rfl)))) pa_nil)))
      (pss_cons (ps_for PassesOwn.never rfl (pi_range1 rfl zrange (pa_cons (pv 1) pa_nil)) (pg_name (i := 5) nd rfl (Or.inl rfl)) (pss_one (ps_expr (pe_bm PySem.F.plainAttrs_list PySem.F.slot_list_append PySem.F.type_list_append mt_append (pv 3) (pa_cons (pe_slice sl_str (pv 4) (po_some (pe_op op_modN' (pv 5) pe_int)) (po_some (pe_op op_addN (pe_op op_addN (pe_op op_modN' (pv 5) pe_int) pe_int) (pe_op op_fdivN' (pv 5) pe_int)))) pa_nil)))))
      (pss_one (ps_ret (pv 3))))) pss_nil)
      (pss_cons (ps_set (i := 6) nd rfl (Or.inl rfl) (pe_ix (ix_listK (K := K) rfl) (pe_lst (pa_consC pe_int (pa_consC pe_int (pa_consC pe_int (pa_consC pe_int (pa_consC pe_int (pa_consC pe_int pa_nil))))))) (pe_op op_modN' (pe_op op_fdivN' (pv 0) pe_int) pe_int) (fun _ _ => rfl)))
      (pss_cons (ps_set (i := 7) nd rfl (Or.inl rfl) (pe_op op_modN' (pe_op op_fdivN' (pv 0) pe_int) (pv 6)))
      (pss_cons (ps_for PassesOwn.never rfl (pi_range1 rfl zrange (pa_cons (pv 1) pa_nil)) (pg_name (i := 5) nd rfl (Or.inl rfl)) (pss_cons (ps_comp (i := 8) (xs := ["_law_j"]) (cs ["_law_cell", "_law_count", "_law_letters", "_law_names_here", "_law_text", "_law_k", "_law_size", "_law_at", "_law_signs"] (defScope sNames) rfl rfl (by decide +kernel)) rfl nd rfl rfl (pi_range1 rfl zrange (pa_cons (pv 6) pa_nil)) (fun _ _ _ => pg_name (i := 0) (show (["_law_j", "_law_cell", "_law_count", "_law_letters", "_law_names_here", "_law_text", "_law_k", "_law_size", "_law_at", "_law_signs"] : List Str).Nodup by decide +kernel) rfl (Or.inl rfl)) (fun _ _ _ => pts_nil) (fun _ _ _ => (pe_ix ix_str (pv 3) (pe_op op_modN' (pe_op op_addN (pe_op op_fdivN' (pv 1) (pe_op op_addN (pv 0) pe_int)) (pe_op op_mulN (pv 0) (pv 0))) pe_int) (fun _ _ => rfl))))
      (pss_cons (ps_asg (pe_ix ix_str (pv 2) (pe_op op_modN' (pe_op op_addN (pe_op op_fdivN' (pv 0) pe_int) (pv 5)) pe_int) (fun _ _ => rfl)) (pg_sub (pv 8) (pv 7) set_list))
      (pss_one (ps_expr (pe_bm PySem.F.plainAttrs_list PySem.F.slot_list_append PySem.F.type_list_append mt_append (pv 3) (pa_cons (pe_bm PySem.F.plainAttrs_str PySem.F.slot_str_join PySem.F.type_str_join mt_join pe_str (pa_cons (pv 8) pa_nil)) pa_nil)))))))
      (pss_one (ps_ret (pv 3))))))))), ?_⟩
    refine ⟨(by show 0 ≤ sizeLine; decide), fun nl hnl => ?_⟩
    have s1 := Same.new (o := .lst []) hnl
    have h1 : (upd H nl (.lst [])) nl = some (.lst []) := upd_same
    generalize upd H nl (.lst []) = H1 at s1 h1
    refine ⟨_, rfl, c, 2, rfl, rfl, (by show 0 < 2; decide), c % 2, 1, rfl, rfl, _, rfl, ite2 (fun hc => ?_) (fun hc => ?_)⟩
    · have hr26 : c / 2 % 26 < 26 := Nat.mod_lt _ (by decide)
      have er : ∀ i, (c / 2 + 3 * i) % 26 = (c / 2 % 26 + 3 * i) % 26 := fun i => by omega
      generalize c / 2 % 26 = r at hr26 er
      refine ⟨rfl, 8, rfl, by decide, by decide, lc_rangeN (k := 8) (fun i acc H' => H' = H1 ∧ acc = (((oddL r).take i).map sng).map V.str) (by decide) ⟨rfl, rfl⟩ (fun i acc H' hi h => ?_) (fun i acc H' hi h => ?_) (fun acc H' h => ?_)⟩
      · obtain ⟨rfl, rfl⟩ := h
        rw [List.length_map, List.length_map]
        exact List.length_take_le _ _
      · obtain ⟨rfl, rfl⟩ := h
        refine ⟨rfl, _, rfl, _, rfl, c, 2, rfl, rfl, ⟨by decide, by decide⟩, _, rfl, 3, i, rfl, rfl, (by show 3 < 2 ^ 64; decide), c / 2, 3 * i, rfl, rfl, c / 2 + 3 * i, 26, rfl, rfl, (by show 0 < 26; decide), letS, _, _, rfl, rfl, let_size, atI_nat (let_at _ (Nat.mod_lt _ (by decide))), rfl, ?_⟩
        rw [List.take_succ, oddL_at hi, er, List.map_append, List.map_append]
        rfl
      obtain ⟨rfl, rfl⟩ := h
      intro jl hjl
      have s2 := s1.trans (Same.new (o := .lst ((((oddL r).take 8).map sng).map V.str)) hjl)
      have hj : (upd H' jl (.lst ((((oddL r).take 8).map sng).map V.str))) jl = some (.lst (((oddL r).map sng).map V.str)) := by rw [upd_same]; rfl
      have h2 := (Same.new (o := .lst ((((oddL r).take 8).map sng).map V.str)) hjl) _ _ h1
      generalize upd H' jl (.lst ((((oddL r).take 8).map sng).map V.str)) = H2 at s2 hj h2
      refine ⟨noS, jl, (oddL r).map sng, rfl, rfl, SqL.of hj, sng_ok _ (by unfold oddL; rw [List.length_map, List.length_range]; decide), ?_⟩
      have e : Txt.join noS ((oddL r).map sng) = oddT r := by rw [join_eq]; exact join_sng _
      rw [e]
      have lo : (oddT r).length = 8 := by show (oddL r).toArray.size = 8; unfold oddL; rw [List.size_toArray, List.length_map, List.length_range]
      refine ⟨_, rfl, (n : Int), rfl, by omega, by omega, for_rangeN (n := n) (fun i σ H' => (∃ v5, σ = [some (vN c), some (vN n), some (.str letS), some (.ref nl), some (.str (oddT r)), v5, none, none, none]) ∧ Same H H' ∧ H' nl = some (.lst ((oddN r i).map V.str))) ⟨⟨_, rfl⟩, s2, h2⟩ ?_ ?_⟩
      · rintro i σ H' hi ⟨⟨v5, rfl⟩, s3, h3⟩
        refine ⟨_, rfl, .inl ⟨rfl, _, SqL.of h3⟩, _, rfl, _, rfl, i, 5, rfl, rfl, (by show 0 < 5; decide), _, rfl, _, rfl, i, 5, rfl, rfl, (by show 0 < 5; decide), i % 5, 1, rfl, rfl, _, rfl, i, 5, rfl, rfl, ⟨by decide, by decide⟩, i % 5 + 1, i / 5, rfl, rfl, _, rfl, oddT r, rfl, by omega, nl, _, _, rfl, rfl, h3, small1000 (by unfold oddN; rw [List.length_map, List.length_map, List.length_range]; omega), ?_⟩
        refine ⟨⟨_, rfl⟩, s3.over hnl, ?_⟩
        rw [upd_same, oddN_snoc, List.map_append]
        rfl
      · rintro σ H' ⟨⟨v5, rfl⟩, s3, h3⟩
        exact ⟨_, rfl, q (oddN r n) nl H' (chk_nm (odd_nm r hr26 n (by omega) n1)) (by unfold oddN; rw [List.length_map, List.length_range]) s3 hnl h3⟩
    · obtain ⟨z, ez, z1, z8⟩ := sizes6 (c / 2 % 6) (Nat.mod_lt _ (by decide))
      refine ⟨(by show 6 ≤ sizeLine; decide), fun g hg => ?_⟩
      have s2 := s1.trans (Same.new (o := .lst [V.int 1, V.int 2, V.int 3, V.int 5, V.int 7, V.int 8]) hg)
      have hg2 : (upd H1 g (.lst [V.int 1, V.int 2, V.int 3, V.int 5, V.int 7, V.int 8])) g = some (.lst [V.int 1, V.int 2, V.int 3, V.int 5, V.int 7, V.int 8]) := upd_same
      have h2 := (Same.new (o := .lst [V.int 1, V.int 2, V.int 3, V.int 5, V.int 7, V.int 8]) hg) _ _ h1
      generalize upd H1 g (.lst [V.int 1, V.int 2, V.int 3, V.int 5, V.int 7, V.int 8]) = H2 at s2 hg2 h2
      refine ⟨_, rfl, c, 2, rfl, rfl, ⟨by decide, by decide⟩, c / 2, 6, rfl, rfl, (by show 0 < 6; decide), g, _, _, _, rfl, rfl, SqL.of hg2, atI_nat ez, ?_⟩
      refine ⟨_, rfl, c, 12, rfl, rfl, ⟨by decide, by decide⟩, _, rfl, c / 12, z, rfl, rfl, z1, ?_⟩
      have hat : c / 12 % z < z := Nat.mod_lt _ z1
      dsimp (config := { proj := false, iota := false }) only
      generalize c / 12 % z = at_ at hat
      refine ⟨_, rfl, (n : Int), rfl, by omega, by omega, for_rangeN (n := n) (fun i σ H' => (∃ v5 v8, σ = [some (vN c), some (vN n), some (.str letS), some (.ref nl), none, v5, some (vN z), some (vN at_), v8]) ∧ Same H H' ∧ H' nl = some (.lst ((evN c z at_ i).map V.str))) ⟨⟨_, _, rfl⟩, s2, h2⟩ ?_ ?_⟩
      · rintro i σ H' hi ⟨⟨v5, v8, rfl⟩, s3, h3⟩
        refine ⟨_, rfl, (z : Int), rfl, by omega, by omega, lc_rangeN (k := z) (fun j acc H4 => H4 = H' ∧ acc = (((evB c z).take j).map sng).map V.str) (by omega) ⟨rfl, rfl⟩ (fun j acc H4 hj h => ?_) (fun j acc H4 hj h => ?_) (fun acc H4 h => ?_)⟩
        · obtain ⟨rfl, rfl⟩ := h
          rw [List.length_map, List.length_map]
          exact List.length_take_le _ _
        · obtain ⟨rfl, rfl⟩ := h
          refine ⟨rfl, _, rfl, _, rfl, _, rfl, j, 1, rfl, rfl, c, j + 1, rfl, rfl, ⟨by omega, by omega⟩, _, rfl, _, rfl, j, j, rfl, rfl, (by show j < 2 ^ 64; omega), c / (j + 1), j * j, rfl, rfl, c / (j + 1) + j * j, 26, rfl, rfl, (by show 0 < 26; decide), letS, _, _, rfl, rfl, let_size, atI_nat (let_at _ (Nat.mod_lt _ (by decide))), rfl, ?_⟩
          rw [List.take_succ, evB_at hj, List.map_append, List.map_append]
          rfl
        obtain ⟨rfl, rfl⟩ := h
        intro sl hsl
        have lb : (evB c z).length = z := by unfold evB; rw [List.length_map, List.length_range]
        have tk : (evB c z).take z = evB c z := List.take_of_length_le (by omega)
        rw [tk]
        have s4 := Same.new (o := .lst (((evB c z).map sng).map V.str)) hsl
        have hs4 : (upd H4 sl (.lst (((evB c z).map sng).map V.str))) sl = some (.lst (((evB c z).map sng).map V.str)) := upd_same
        have h4 := s4 _ _ h3
        have nsl : H sl = none := s3.none hsl
        have nns : nl ≠ sl := ne_of_none h3 hsl
        have s5 := s3.trans s4
        generalize upd H4 sl (.lst (((evB c z).map sng).map V.str)) = H5 at s5 hs4 h4
        refine ⟨_, rfl, _, rfl, c, 96, rfl, rfl, ⟨by decide, by decide⟩, _, rfl, c / 96, i, rfl, rfl, c / 96 + i, 26, rfl, rfl, (by show 0 < 26; decide), letS, _, _, rfl, rfl, let_size, atI_nat (let_at _ (Nat.mod_lt _ (by decide))), _, rfl, _, rfl, sl, _, _, at_, rfl, rfl, hs4, ixN_nat (by rw [List.length_map, List.length_map, lb]; exact hat), ?_⟩
        have ee : (((evB c z).map sng).map V.str).set at_ (V.str ⟨#[97 + (c / 96 + i) % 26]⟩) = ((evL c z at_ i).map sng).map V.str := by
          unfold evL
          rw [List.map_set, List.map_set]; rfl
        rw [ee]
        have s6 := s5.over (o := .lst (((evL c z at_ i).map sng).map V.str)) nsl
        have hs6 : (upd H5 sl (.lst (((evL c z at_ i).map sng).map V.str))) sl = some (.lst (((evL c z at_ i).map sng).map V.str)) := upd_same
        have h6 : (upd H5 sl (.lst (((evL c z at_ i).map sng).map V.str))) nl = some (.lst ((evN c z at_ i).map V.str)) := by rw [upd_ne nns]; exact h4
        generalize upd H5 sl (.lst (((evL c z at_ i).map sng).map V.str)) = H6 at s6 hs6 h6
        refine ⟨_, rfl, .inl ⟨rfl, _, SqL.of h6⟩, rfl, _, rfl, noS, sl, (evL c z at_ i).map sng, rfl, rfl, SqL.of hs6, sng_ok _ (by rw [ev_len]; omega), ?_⟩
        have e : Txt.join noS ((evL c z at_ i).map sng) = evS c z at_ i := by rw [join_eq]; exact join_sng _
        rw [e]
        refine ⟨nl, _, _, rfl, rfl, h6, small1000 (by unfold evN; rw [List.length_map, List.length_map, List.length_range]; omega), ?_⟩
        refine ⟨⟨_, _, rfl⟩, s6.over hnl, ?_⟩
        rw [upd_same, evN_snoc, List.map_append]
        rfl
      · rintro σ H' ⟨⟨v5, v8, rfl⟩, s3, h3⟩
        exact ⟨_, rfl, q (evN c z at_ n) nl H' (ev_nm hat z8 n1 n7) (by unfold evN; rw [List.length_map, List.length_range]) s3 hnl h3⟩
end
end Own

namespace Own
open PySem L2
section
variable {P : Program} {w : World} {K : PySem.W.Frag} {mg : Str → Option Value} {base : Heap}
seal PySem.wpAny
noncomputable abbrev sHas : Stmt := top 8
theorem scHas : FnScope ["some", "column"] ["some", "column"] (defScope sHas) := ⟨rfl, rfl, rfl, by decide +kernel, rfl, by decide +kernel, by decide +kernel⟩
theorem ok_has {f : Addr} {fd : FuncData} (F : Fun K "has_column" "has_column" sHas f fd) : FnOk P w K mg base CX0 1 f fd ["some", "column"] spHas := by
  refine F.ok scHas (fun vs H Q E h => ?_) (fun cdv A outer s H vs Q E hr h => ?_)
  · obtain ⟨a, k, rfl, _⟩ := h
    rfl
  · obtain ⟨a, k, rfl, q⟩ := h
    refine ⟨_, pss_one (ps_ret (pe_cmpR op_eq (pe_op op_and (pe_op op_shr (pv 0) (pv 1)) pe_int) pe_int (nomark _))), ?_⟩
    refine ⟨_, rfl, _, rfl, _, _, rfl, rfl, (by omega), _, _, rfl, rfl, rfl, ?_⟩
    show Q (V.bl (decide (V.int (Builtin.bitAnd ((a : Int) / 2 ^ (k : Int).toNat) 1) = V.int 1))) H
    rw [has_eq]
    exact q
noncomputable abbrev sCols : Stmt := top 9
theorem scCols : FnScope ["some"] ["some"] (defScope sCols) := ⟨rfl, rfl, rfl, by decide +kernel, rfl, by decide +kernel, by decide +kernel⟩
theorem ok_cols {f fH : Addr} {fd fdH : FuncData} (F : Fun K "columns_of" "columns_of" sCols f fd) (GH : FnOk P w K mg base CX0 1 fH fdH ["some", "column"] spHas) (mH : mg "has_column" = some (.ref fH)) (kH : PySem.W.keepIn K (.ref fH) = true) (bH : Binds K fdH ["some", "column"] []) (zR : mg "range" = none) : FnOk P w K mg base CX0 2 f fd ["some"] spCols := by
  refine F.ok scCols (fun vs H Q E h => ?_) (fun cdv A outer s H vs Q E hr h => ?_)
  · obtain ⟨a, rfl, _⟩ := h
    rfl
  · obtain ⟨a, rfl, ha, q⟩ := h
    refine ⟨_, pss_one (ps_ret (pe_comp (xs := ["column"]) (cs ["some"] (defScope sCols) rfl rfl (by decide +kernel)) rfl (pi_range1 rfl zR (pa_cons (pe_bm0 PySem.F.plainAttrs_int PySem.F.slot_int_bit_length PySem.F.type_int_bit_length mt_bitlen (pv 0)) pa_nil))
      (fun _ _ _ => pg_name (i := 0) (show (["column", "some"] : List Str).Nodup by decide +kernel) rfl (Or.inl rfl)) (fun _ _ _ => pts_one (pt_val (pe_call GH hr rfl mH kH bH .nil pass0 (pa_cons (pv 1) (pa_cons (pv 0) pa_nil))))) (fun _ _ _ => pv 0))), ?_⟩
    refine ⟨_, rfl, rfl, (a : Int), rfl, rfl, _, rfl, (by omega), ?_, ?_⟩
    · have := bitsN_le ha
      show ((bitsN a : Nat) : Int) < _
      omega
    · refine lc_range (lo := 0) (k := ((bitsN a : Nat) : Int).toNat) (n := 1) (fun i acc H' => H' = H ∧ acc = ((List.range i).filter (hasB a)).map vN) ?_ ⟨rfl, rfl⟩ (fun i acc H' hi h => ?_) (fun i acc H' hi h => ?_) (fun acc H' h => ?_)
      · have := bitsN_le ha
        omega
      · rw [h.2, List.length_map]
        exact Nat.le_trans (List.length_filter_le _ _) (by simp)
      · obtain ⟨rfl, rfl⟩ := h
        refine ⟨rfl, _, rfl, _, rfl, a, i, ?_, _, rfl, ?_⟩
        · show [vN a, V.int (0 + (i : Int))] = _
          rw [Int.zero_add]; rfl
        · refine ite2 (fun hc => ?_) (fun hc => ?_)
          · refine ⟨_, rfl, rfl, ?_⟩
            rw [filt_succ, if_pos hc, List.map_append, Int.zero_add]
            rfl
          · refine ⟨rfl, ?_⟩
            rw [filt_succ, if_neg hc, List.append_nil]
      · obtain ⟨rfl, rfl⟩ := h
        intro p hp
        exact q p hp
noncomputable abbrev sIn : Stmt := top 18
theorem scIn : FnScope ["_law_names_here", "_law_some"] ["_law_names_here", "_law_some"] (defScope sIn) := ⟨rfl, rfl, rfl, by decide +kernel, rfl, by decide +kernel, by decide +kernel⟩
theorem ok_in {f : Addr} {fd : FuncData} (F : Fun K "_law_in" "_law_in" sIn f fd) (zrange : mg "range" = none) (zlen : mg "len" = none) : FnOk P w K mg base CX0 1 f fd ["_law_names_here", "_law_some"] (spNamesIn K) := by
  refine F.ok scIn (fun vs H Q E h => ?_) (fun cdv A outer s H vs Q E hr h => ?_)
  · obtain ⟨np, nms, z, rfl, _⟩ := h
    rfl
  · obtain ⟨np, nms, z, rfl, hn, NN, hz, q⟩ := h
    have nd := scIn.nd
    have l7 := NN.l7
    have lm : (nms.map V.str).length = nms.length := List.length_map ..
    refine ⟨_, (pss_one (ps_ret (pe_comp (xs := ["_law_k"]) (cs ["_law_names_here", "_law_some"] (defScope sIn) rfl rfl (by decide +kernel)) rfl (pi_range1 rfl zrange (pa_cons (pe_callB (call_lenK (K := K) rfl) (by rfl) zlen PySem.boot_len (pa_cons (pv 0) pa_nil)) pa_nil)) (fun _ _ _ => pg_name (i := 0) (show (["_law_k", "_law_names_here", "_law_some"] : List Str).Nodup by decide +kernel) rfl (Or.inl rfl)) (fun _ _ _ => (pts_one (pt_cmpR op_eqN (pe_op op_andN (pe_op op_shrN (pv 2) (pv 0)) pe_int) pe_int (nomark _)))) (fun _ _ _ => (pe_ix (ix_listK (K := K) rfl) (pv 1) (pv 0) (fun _ _ => rfl)))))), ?_⟩
    refine ⟨_, rfl, np, _, rfl, .inl hn, ((nms.map V.str).length : Int), rfl, by omega, by omega, ?_⟩
    rw [lm]
    refine lc_rangeN (k := nms.length) (fun i acc H' => H' = H ∧ acc = (((List.range i).filter (hasB z)).map fun c => nms.getD c noS).map V.str) (by omega) ⟨rfl, rfl⟩ (fun i acc H' hi h => ?_) (fun i acc H' hi h => ?_) (fun acc H' h => ?_)
    · obtain ⟨rfl, rfl⟩ := h
      rw [List.length_map, List.length_map]
      exact Nat.le_trans (List.length_filter_le _ _) (by rw [List.length_range]; exact Nat.le_refl _)
    · obtain ⟨rfl, rfl⟩ := h
      have hb : decide (z / 2 ^ i &&& 1 = 1) = hasB z i := by
        unfold hasB
        rw [Nat.and_one_is_mod]
      refine ⟨rfl, _, rfl, _, rfl, z, i, rfl, rfl, z / 2 ^ i, 1, rfl, rfl, z / 2 ^ i &&& 1, 1, rfl, rfl, _, rfl, ?_⟩
      rw [hb, List.range_succ, List.filter_append]
      refine ite2 (fun hc => ?_) (fun hc => ?_)
      · refine ⟨_, rfl, _, rfl, np, _, _, _, rfl, rfl, hn, atI_nat (j := i) (v := V.str (nms.getD i noS)) (by rw [List.getElem?_map, (getD_nm hi).2]; rfl), rfl, ?_⟩
        rw [List.filter_cons_of_pos hc, List.filter_nil, List.map_append, List.map_append]
        rfl
      · refine ⟨rfl, ?_⟩
        rw [List.filter_cons_of_neg hc, List.filter_nil, List.append_nil]
    obtain ⟨rfl, rfl⟩ := h
    rw [in_range nms.length (by omega) z hz]
    intro l hl
    exact q l _ (Same.new hl) hl upd_same
noncomputable abbrev sSet : Stmt := top 19
theorem scSet : FnScope ["_law_names_here", "_law_some"] ["_law_names_here", "_law_some"] (defScope sSet) := ⟨rfl, rfl, rfl, by decide +kernel, rfl, by decide +kernel, by decide +kernel⟩
theorem ok_set {f fIN : Addr} {fd fdIN : FuncData} (F : Fun K "_law_set" "_law_set" sSet f fd) (GIN : FnOk P w K mg base CX0 1 fIN fdIN ["_law_names_here", "_law_some"] (spNamesIn K)) (mIN : mg "_law_in" = some (.ref fIN)) (kIN : PySem.W.keepIn K (.ref fIN) = true) (bIN : Binds K fdIN ["_law_names_here", "_law_some"] []) : FnOk P w K mg base CX0 2 f fd ["_law_names_here", "_law_some"] (spShowS K) := by
  refine F.ok scSet (fun vs H Q E h => ?_) (fun cdv A outer s H vs Q E hr h => ?_)
  · obtain ⟨np, nms, z, rfl, _⟩ := h
    rfl
  · obtain ⟨np, nms, z, rfl, hn, NN, hz, q⟩ := h
    have nd := scSet.nd
    have hr1 : Room 1 _ := hr.mono (by decide)
    refine ⟨_, (pss_cons (ps_if (pt_cmpR op_eqN (pv 1) pe_int (nomark _)) (pss_one (ps_ret pe_str)) pss_nil)
      (pss_one (ps_ret (pe_bm PySem.F.plainAttrs_str PySem.F.slot_str_join PySem.F.type_str_join mt_join pe_str (pa_cons (pe_call GIN hr1 rfl mIN kIN bIN .nil pass0 (pa_cons (pv 0) (pa_cons (pv 1) pa_nil))) pa_nil))))), ?_⟩
    refine ⟨_, rfl, z, 0, rfl, rfl, _, rfl, ite2 (fun hc => ?_) (fun hc => ?_)⟩
    · obtain rfl : z = 0 := of_decide_eq_true hc
      exact q _ (Same.refl _)
    · have z0 : z ≠ 0 := fun e => hc (decide_eq_true e)
      refine ⟨rfl, _, rfl, _, rfl, np, nms, z, rfl, hn, NN, hz, fun l H1 s1 hl0 hl => ?_⟩
      refine ⟨_, l, namN nms z, rfl, rfl, SqL.of hl, nam_ok NN hz, ?_⟩
      have e : showS nms z = Txt.join commaS (namN nms z) := by unfold showS; rw [if_neg z0, join_eq]
      have q1 := q H1 s1
      rw [e] at q1
      exact q1
noncomputable abbrev sCellAt : Stmt := top 16
theorem scCellAt : FnScope ["_law_script", "_law_k", "_law_number"] ["_law_script", "_law_k"] (defScope sCellAt) := ⟨rfl, rfl, rfl, by decide +kernel, rfl, by decide +kernel, by decide +kernel⟩
theorem ok_cellat {f : Addr} {fd : FuncData} (F : Fun K "_law_cell_at" "_law_cell_at" sCellAt f fd) (zlen : mg "len" = none) : FnOk P w K mg base CX0 1 f fd ["_law_script", "_law_k"] (spCellD K) := by
  refine F.ok scCellAt (fun vs H Q E h => ?_) (fun cdv A outer s H vs Q E hr h => ?_)
  · obtain ⟨sc, ns, k, rfl, _⟩ := h
    rfl
  · obtain ⟨sc, ns, k, rfl, hS, hk, q⟩ := h
    have nd := scCellAt.nd
    have kk : k * k ≤ 1000 * 1000 := Nat.mul_le_mul hk hk
    have p0 : (0 : Int) < 2147483629 := by decide
    refine ⟨_, (pss_cons (ps_if (pt_cmpR op_ltN (pv 1) (pe_callB (call_lenK (K := K) rfl) (by rfl) zlen PySem.boot_len (pa_cons (pv 0) pa_nil)) (nomark _)) (pss_one (ps_ret (pe_op op_mod (pe_ix (ix_listK (K := K) rfl) (pv 0) (pv 1) (fun _ _ => rfl)) pe_int))) pss_nil)
      (pss_cons (ps_set (i := 2) nd rfl (Or.inl rfl) (pe_op op_addN (pe_op op_mulN (pe_op op_mulN (pv 1) (pv 1)) pe_int) pe_int))
      (pss_cons (ps_if (pt_cmpR op_gtN (pe_callB (call_lenK (K := K) rfl) (by rfl) zlen PySem.boot_len (pa_cons (pv 0) pa_nil)) pe_int (nomark _)) (pss_one (ps_set (i := 2) nd rfl (Or.inl rfl) (pe_op op_addN (pv 2) (pe_op op_mulN (pe_op op_mod (pe_ix (ix_listK (K := K) rfl) (pv 0) (pe_op op_modN' (pv 1) (pe_callB (call_lenK (K := K) rfl) (by rfl) zlen PySem.boot_len (pa_cons (pv 0) pa_nil))) (fun _ _ => rfl)) pe_int) pe_int)))) pss_nil)
      (pss_one (ps_ret (pe_op op_modN' (pe_op op_mulN (pv 2) (pv 2)) pe_int)))))), ?_⟩
    have len1 : (ns.map V.int).length = ns.length := List.length_map ..
    refine ⟨_, rfl, _, rfl, sc, _, rfl, .inl hS, k, _, rfl, rfl, _, rfl, ?_⟩
    refine ite2 (fun hc => ?_) (fun hc => ?_)
    · have hlt : k < ns.length := by
        have := of_decide_eq_true hc
        rwa [len1] at this
      refine ⟨_, rfl, _, rfl, sc, _, _, _, rfl, rfl, hS, atI_nat (j := k) (v := V.int ns[k]) (by simp [hlt]), _, _, rfl, rfl, p0, ?_⟩
      obtain ⟨c, e, lt⟩ := nat_of (n := 2147483629) (mod_lo ns[k] p0) (mod_hi ns[k] p0)
      show Q (V.int (ns[k] % 2147483629)) H
      have ec := cellV_eq hlt e
      have en : cellN ns k = c := by unfold cellN; rw [if_pos hlt]; exact ec
      rw [e]
      rw [en] at q
      exact q
    · have hge : ¬ k < ns.length := fun z => hc (decide_eq_true (by rw [len1]; exact z))
      refine ⟨_, rfl, _, rfl, k, k, rfl, rfl, by omega, k * k, 48271, rfl, rfl, by omega, k * k * 48271, 11, rfl, rfl, ?_⟩
      refine ⟨_, rfl, sc, _, rfl, .inl hS, _, 0, rfl, rfl, _, rfl, ?_⟩
      refine ite2 (fun hc2 => ?_) (fun hc2 => ?_)
      · have hpos : 0 < ns.length := by
          have := of_decide_eq_true hc2
          rwa [len1] at this
        have hj : k % (ns.map V.int).length < ns.length := by rw [len1]; exact Nat.mod_lt _ hpos
        obtain ⟨c, e, lt⟩ := nat_of (n := 2147483629) (mod_lo ns[k % (ns.map V.int).length] p0) (mod_hi ns[k % (ns.map V.int).length] p0)
        refine ⟨_, rfl, _, rfl, _, rfl, _, rfl, sc, _, rfl, .inl hS, k, (ns.map V.int).length, rfl, rfl, by rw [len1]; exact hpos, sc, _, _, _, rfl, rfl, hS, atI_nat (j := k % (ns.map V.int).length) (v := V.int ns[k % (ns.map V.int).length]) (by rw [List.getElem?_map, List.getElem?_eq_getElem hj]; rfl), _, _, rfl, rfl, p0, c, 69621, congrArg V.int e, rfl, by omega, k * k * 48271 + 11, c * 69621, rfl, rfl, ?_⟩
        refine ⟨_, rfl, _, rfl, k * k * 48271 + 11 + c * 69621, k * k * 48271 + 11 + c * 69621, rfl, rfl, by omega, _, 2147483629, rfl, rfl, (by show 0 < 2147483629; decide), ?_⟩
        have en : cellN ns k = (k * k * 48271 + 11 + c * 69621) * (k * k * 48271 + 11 + c * 69621) % 2147483629 := by
          unfold cellN
          rw [if_neg hge, if_pos hpos]
          have ec : cellV ns (k % ns.length) = c := by
            have hj' := hj
            have e' := e
            simp only [len1] at hj' e'
            exact cellV_eq hj' e'
          rw [ec]
        rw [en] at q
        exact q
      · refine ⟨_, rfl, _, rfl, k * k * 48271 + 11, k * k * 48271 + 11, rfl, rfl, by omega, _, 2147483629, rfl, rfl, (by show 0 < 2147483629; decide), ?_⟩
        have hz : ¬ 0 < ns.length := fun z => hc2 (decide_eq_true (by rw [len1]; exact z))
        have en : cellN ns k = (k * k * 48271 + 11) * (k * k * 48271 + 11) % 2147483629 := by
          unfold cellN
          rw [if_neg hge, if_neg hz]
        rw [en] at q
        exact q
end
end Own

namespace Own
open PySem L2
section
variable {P : Program} {w : World} {K : PySem.W.Frag} {mg : Str → Option Value} {base : Heap}
seal PySem.wpAny
noncomputable abbrev sBent : Stmt := top 20
theorem scBent : FnScope ["_law_names_here", "_law_some", "_law_cell", "_law_good", "_law_other", "_law_first", "_law_last", "_law_bent_here"] ["_law_names_here", "_law_some", "_law_cell"] (defScope sBent) := ⟨rfl, rfl, rfl, by decide +kernel, rfl, by decide +kernel, by decide +kernel⟩
theorem ok_bent {f fSE : Addr} {fd fdSE : FuncData} (F : Fun K "_law_bent" "_law_bent" sBent f fd) (GSE : FnOk P w K mg base CX0 2 fSE fdSE ["_law_names_here", "_law_some"] (spShowS K)) (mSE : mg "_law_set" = some (.ref fSE)) (kSE : PySem.W.keepIn K (.ref fSE) = true) (bSE : Binds K fdSE ["_law_names_here", "_law_some"] []) (zlen : mg "len" = none) : FnOk P w K mg base CX0 3 f fd ["_law_names_here", "_law_some", "_law_cell"] (spBent82 K) := by
  refine F.ok scBent (fun vs H Q E h => ?_) (fun cdv A outer s H vs Q E hr h => ?_)
  · obtain ⟨np, nms, z, c, rfl, _⟩ := h
    rfl
  · obtain ⟨np, nms, z, c, rfl, hn, NN, hz, q⟩ := h
    have nd := scBent.nd
    have hr2 : Room 2 _ := hr.mono (by decide)
    have l1 := NN.l1
    refine ⟨_, (pss_cons (ps_set (i := 3) nd rfl (Or.inl rfl) (pe_call GSE hr2 rfl mSE kSE bSE .nil pass0 (pa_cons (pv 0) (pa_cons (pv 1) pa_nil))))
      (pss_cons (ps_set (i := 4) nd rfl (Or.inl rfl) (pe_ix (ix_listK (K := K) rfl) (pe_comp (xs := ["_law_word"]) (cs ["_law_names_here", "_law_some", "_law_cell", "_law_good", "_law_other", "_law_first", "_law_last", "_law_bent_here"] (defScope sBent) rfl rfl (by decide +kernel)) rfl (pi_listK (K := K) rfl (pe_lst (pa_cons pe_str (pa_cons pe_str (pa_cons pe_str (pa_cons pe_str (pa_cons pe_str (pa_cons pe_str (pa_cons pe_str (pa_cons pe_str pa_nil)))))))))) (fun _ _ _ => pg_name (i := 0) (show (["_law_word", "_law_names_here", "_law_some", "_law_cell", "_law_good", "_law_other", "_law_first", "_law_last", "_law_bent_here"] : List Str).Nodup by decide +kernel) rfl (Or.inl rfl)) (fun _ _ _ => (pts_one (pt_cmpR (op_notInKS (K := K) rfl) (pv 0) (pv 1) (by rfl)))) (fun _ _ _ => (pv 0))) pe_int (fun _ _ => rfl)))
      (pss_cons (ps_set (i := 5) nd rfl (Or.inl rfl) (pe_ix (ix_listK (K := K) rfl) (pv 0) pe_int (fun _ _ => rfl)))
      (pss_cons (ps_set (i := 6) nd rfl (Or.inl rfl) (pe_ix (ix_listK (K := K) rfl) (pv 0) (pe_un un_neg pe_int) (fun _ _ => rfl)))
      (pss_cons (ps_set (i := 7) nd rfl (Or.inl rfl) (pe_lst (pa_cons pe_str (pa_cons (pe_op op_add_str pe_str (pv 3)) (pa_cons (pe_op op_add_str (pv 3) pe_str) (pa_cons (pe_op op_add_str (pe_op op_add_str (pv 3) pe_str) (pv 4)) (pa_cons (pv 4) (pa_cons (pe_op op_add_str (pe_op op_add_str (pv 3) pe_str) (pe_bm0 PySem.F.plainAttrs_str PySem.F.slot_str_upper PySem.F.type_str_upper mt_upper (pv 5))) (pa_cons (pe_op op_add_str pe_str (pv 3)) (pa_cons (pe_op op_add_str (pv 3) pe_str) pa_nil))))))))))
      (pss_cons (ps_set (i := 7) nd rfl (Or.inl rfl) (pe_op op_cat (pv 7) (pe_lst (pa_cons (pe_op op_add_str (pe_op op_add_str (pv 6) pe_str) (pv 5)) (pa_cons (pe_op op_add_str (pe_op op_add_str (pv 5) pe_str) (pv 6)) (pa_cons pe_str (pa_cons pe_str (pa_cons (pe_op op_add_str pe_str (pv 5)) (pa_cons (pe_op op_add_str (pv 5) pe_str) (pa_cons pe_str pa_nil))))))))))
      (pss_cons (ps_set (i := 7) nd rfl (Or.inl rfl) (pe_op op_cat (pv 7) (pe_lst (pa_cons (pe_op op_add_str (pe_op op_add_str (pv 5) pe_str) (pv 6)) (pa_cons (pe_op op_add_str (pe_op op_add_str (pv 5) pe_str) (pv 5)) (pa_cons (pe_op op_add_str (pv 3) pe_str) (pa_cons (pe_op op_add_str (pe_op op_add_str (pv 5) pe_str) (pv 6)) pa_nil)))))))
      (pss_one (ps_ret (pe_ix (ix_listK (K := K) rfl) (pv 7) (pe_op op_modN' (pv 2) (pe_callB (call_lenK (K := K) rfl) (by rfl) zlen PySem.boot_len (pa_cons (pv 7) pa_nil))) (fun _ _ => rfl))))))))))), ?_⟩
    refine ⟨_, rfl, _, rfl, np, nms, z, rfl, hn, NN, hz, fun H1 sA => ?_⟩
    refine ⟨(by show 8 ≤ sizeLine; decide), fun wl hwl => ⟨wl, rfl, ⟨_, SqL.of upd_same⟩, ?_⟩⟩
    have s1 := Same.new (o := .lst (words8.map V.str)) hwl
    have hw : (upd H1 wl (.lst (words8.map V.str))) wl = some (.lst (words8.map V.str)) := upd_same
    have sB := sA.trans s1
    refine lc_list (K := K) (xs := words8.map V.str) (fun j acc H2 => H2 = upd H1 wl (.lst (words8.map V.str)) ∧ acc = ((words8.take j).filter (fun w => !decide (w ∈ nms))).map V.str) (by decide) ⟨rfl, rfl⟩ (fun j acc H2 hj h => ?_) (fun j v acc H2 hv h => ?_) (fun acc H2 h => ?_)
    · obtain ⟨rfl, rfl⟩ := h
      exact ⟨SqL.of hw, by rw [List.length_map]; exact Nat.le_trans (List.length_filter_le _ _) (List.length_take_le _ _)⟩
    · obtain ⟨rfl, rfl⟩ := h
      rw [List.getElem?_map] at hv
      cases ec : words8[j]? with
      | none => rw [ec] at hv; cases hv
      | some x =>
        rw [ec] at hv
        obtain rfl := (Option.some.inj hv).symm
        refine ⟨rfl, _, rfl, _, rfl, np, _, rfl, .inl (sB.seq hn), rfl, flat_str _, _, rfl, ?_⟩
        rw [if_pos rfl, inV_str, List.take_succ, ec, List.filter_append]
        refine ite2 (fun hc => ?_) (fun hc => ?_)
        · refine ⟨_, rfl, rfl, ?_⟩
          rw [show (some x).toList = [x] from rfl, List.filter_cons_of_pos (p := fun w => !decide (w ∈ nms)) hc, List.filter_nil, List.map_append]
          rfl
        · refine ⟨rfl, ?_⟩
          rw [show (some x).toList = [x] from rfl, List.filter_cons_of_neg (p := fun w => !decide (w ∈ nms)) hc, List.filter_nil, List.append_nil]
    obtain ⟨rfl, rfl⟩ := h
    obtain ⟨oth, rest, eo, no, lo, po⟩ := other8 NN
    have tk : words8.take (words8.map V.str).length = words8 := rfl
    rw [tk, eo]
    intro ol hol
    have s2 := Same.new (o := .lst ((oth :: rest).map V.str)) hol
    replace sA := sB.trans s2
    clear sB s1 hw
    refine ⟨ol, _, _, _, rfl, rfl, SqL.of upd_same, atI_nat (j := 0) rfl, ?_⟩
    generalize upd (upd H1 wl (.lst (words8.map V.str))) ol (.lst ((oth :: rest).map V.str)) = H2 at sA
    have mF := (getD_nm (nms := nms) (s := 0) (by omega)).1
    have mL := (getD_nm (nms := nms) (s := nms.length - 1) (by omega)).1
    have pg := show_pl NN hz
    have pF := nm_pl NN mF
    have pL := nm_pl NN mL
    have pu := upper_pl NN mF
    refine ⟨_, rfl, np, _, _, _, rfl, rfl, sA.seq hn, atI_nat (j := 0) (v := V.str (nms.getD 0 noS)) (by rw [List.getElem?_map, (getD_nm (s := 0) (by omega)).2]; rfl), ?_⟩
    refine ⟨_, rfl, 1, rfl, np, _, _, _, rfl, rfl, sA.seq hn, last_at (by omega), ?_⟩
    have BB := bent_bad NN hz no lo po
    refine ⟨_, rfl, _, _, rfl, rfl, Pl.line (show Pl 3 _ from ⟨by decide, by decide⟩) pg, _, rfl, _, _, rfl, rfl, Pl.line pg (show Pl 3 _ from ⟨by decide, by decide⟩), _, rfl, _, _, rfl, rfl, Pl.line pg (show Pl 3 _ from ⟨by decide, by decide⟩), _, rfl, _, _, rfl, rfl, Pl.line (Pl.app pg (show Pl 3 _ from ⟨by decide, by decide⟩)) po, _, rfl, _, rfl, _, _, rfl, rfl, Pl.line pg (show Pl 3 _ from ⟨by decide, by decide⟩), _, rfl, rfl, _, rfl, rfl, toolong8 pu.len, _, _, rfl, rfl, Pl.line (Pl.app pg (show Pl 3 _ from ⟨by decide, by decide⟩)) pu, _, rfl, _, _, rfl, rfl, Pl.line (show Pl 3 _ from ⟨by decide, by decide⟩) pg, _, rfl, _, _, rfl, rfl, Pl.line pg (show Pl 3 _ from ⟨by decide, by decide⟩), (by show 8 ≤ sizeLine; decide), fun a1 ha1 => ?_⟩
    have hx : ∀ (o : HO) (H3 : Hp), o = .lst (((bentL (showS nms z) (nms.getD 0 noS) (nms.getD (nms.length - 1) noS) oth).take 8).map V.str) → upd H2 a1 o = H3 → Same H H3 ∧ H3 a1 = some (.lst (((bentL (showS nms z) (nms.getD 0 noS) (nms.getD (nms.length - 1) noS) oth).take 8).map V.str)) := fun o H3 e1 e2 => by subst e1 e2; exact ⟨sA.trans (Same.new ha1), upd_same⟩
    generalize e3 : upd H2 a1 _ = H3
    obtain ⟨sA3, h1⟩ := hx _ H3 rfl e3
    clear hx e3
    refine ⟨_, rfl, _, rfl, _, _, rfl, rfl, Pl.line pL (show Pl 3 _ from ⟨by decide, by decide⟩), _, rfl, _, _, rfl, rfl, Pl.line (Pl.app pL (show Pl 3 _ from ⟨by decide, by decide⟩)) pF, _, rfl, _, _, rfl, rfl, Pl.line pF (show Pl 3 _ from ⟨by decide, by decide⟩), _, rfl, _, _, rfl, rfl, Pl.line (Pl.app pF (show Pl 3 _ from ⟨by decide, by decide⟩)) pL, _, rfl, _, _, rfl, rfl, Pl.line (show Pl 3 _ from ⟨by decide, by decide⟩) pF, _, rfl, _, _, rfl, rfl, Pl.line pF (show Pl 3 _ from ⟨by decide, by decide⟩), (by show 7 ≤ sizeLine; decide), fun a2 ha2 => ?_⟩
    have hx : ∀ (o : HO) (H4 : Hp), o = .lst ((((bentL (showS nms z) (nms.getD 0 noS) (nms.getD (nms.length - 1) noS) oth).drop 8).take 7).map V.str) → upd H3 a2 o = H4 → Same H H4 ∧ H4 a1 = some (.lst (((bentL (showS nms z) (nms.getD 0 noS) (nms.getD (nms.length - 1) noS) oth).take 8).map V.str)) ∧ H4 a2 = some (.lst ((((bentL (showS nms z) (nms.getD 0 noS) (nms.getD (nms.length - 1) noS) oth).drop 8).take 7).map V.str)) := fun o H4 e1 e2 => by subst e1 e2; exact ⟨sA3.trans (Same.new ha2), (Same.new ha2) _ _ h1, upd_same⟩
    generalize e3 : upd H3 a2 _ = H4
    obtain ⟨sA4, h1', h2⟩ := hx _ H4 rfl e3
    clear hx e3
    refine ⟨a1, a2, _, _, rfl, rfl, h1', h2, (by show 15 ≤ sizeLine; decide), fun a3 ha3 => ?_⟩
    have sA5 := sA4.trans (Same.new (o := .lst ((((bentL (showS nms z) (nms.getD 0 noS) (nms.getD (nms.length - 1) noS) oth).take 8).map V.str) ++ ((((bentL (showS nms z) (nms.getD 0 noS) (nms.getD (nms.length - 1) noS) oth).drop 8).take 7).map V.str))) ha3)
    have h3 : (upd H4 a3 (.lst ((((bentL (showS nms z) (nms.getD 0 noS) (nms.getD (nms.length - 1) noS) oth).take 8).map V.str) ++ ((((bentL (showS nms z) (nms.getD 0 noS) (nms.getD (nms.length - 1) noS) oth).drop 8).take 7).map V.str)))) a3 = some (.lst ((((bentL (showS nms z) (nms.getD 0 noS) (nms.getD (nms.length - 1) noS) oth).take 8).map V.str) ++ ((((bentL (showS nms z) (nms.getD 0 noS) (nms.getD (nms.length - 1) noS) oth).drop 8).take 7).map V.str))) := upd_same
    generalize upd H4 a3 (.lst ((((bentL (showS nms z) (nms.getD 0 noS) (nms.getD (nms.length - 1) noS) oth).take 8).map V.str) ++ ((((bentL (showS nms z) (nms.getD 0 noS) (nms.getD (nms.length - 1) noS) oth).drop 8).take 7).map V.str))) = H5 at sA5 h3
    refine ⟨_, rfl, _, rfl, _, _, rfl, rfl, Pl.line pF (show Pl 3 _ from ⟨by decide, by decide⟩), _, rfl, _, _, rfl, rfl, Pl.line (Pl.app pF (show Pl 3 _ from ⟨by decide, by decide⟩)) pL, _, rfl, _, _, rfl, rfl, Pl.line pF (show Pl 3 _ from ⟨by decide, by decide⟩), _, rfl, _, _, rfl, rfl, Pl.line (Pl.app pF (show Pl 3 _ from ⟨by decide, by decide⟩)) pF, _, rfl, _, _, rfl, rfl, Pl.line pg (show Pl 3 _ from ⟨by decide, by decide⟩), _, rfl, _, _, rfl, rfl, Pl.line pF (show Pl 3 _ from ⟨by decide, by decide⟩), _, rfl, _, _, rfl, rfl, Pl.line (Pl.app pF (show Pl 3 _ from ⟨by decide, by decide⟩)) pL, (by show 4 ≤ sizeLine; decide), fun a4 ha4 => ?_⟩
    have hx : ∀ (o : HO) (H6 : Hp), o = .lst (((bentL (showS nms z) (nms.getD 0 noS) (nms.getD (nms.length - 1) noS) oth).drop 15).map V.str) → upd H5 a4 o = H6 → Same H H6 ∧ H6 a3 = some (.lst ((((bentL (showS nms z) (nms.getD 0 noS) (nms.getD (nms.length - 1) noS) oth).take 8).map V.str) ++ ((((bentL (showS nms z) (nms.getD 0 noS) (nms.getD (nms.length - 1) noS) oth).drop 8).take 7).map V.str))) ∧ H6 a4 = some (.lst (((bentL (showS nms z) (nms.getD 0 noS) (nms.getD (nms.length - 1) noS) oth).drop 15).map V.str)) := fun o H6 e1 e2 => by subst e1 e2; exact ⟨sA5.trans (Same.new ha4), (Same.new ha4) _ _ h3, upd_same⟩
    generalize e3 : upd H5 a4 _ = H6
    obtain ⟨sA6, h3', h4⟩ := hx _ H6 rfl e3
    clear hx e3
    refine ⟨a3, a4, _, _, rfl, rfl, h3', h4, (by show 19 ≤ sizeLine; decide), fun a5 ha5 => ?_⟩
    have sA7 := sA6.trans (Same.new (o := .lst ((((bentL (showS nms z) (nms.getD 0 noS) (nms.getD (nms.length - 1) noS) oth).take 8).map V.str) ++ ((((bentL (showS nms z) (nms.getD 0 noS) (nms.getD (nms.length - 1) noS) oth).drop 8).take 7).map V.str) ++ (((bentL (showS nms z) (nms.getD 0 noS) (nms.getD (nms.length - 1) noS) oth).drop 15).map V.str))) ha5)
    have h5 : (upd H6 a5 (.lst ((((bentL (showS nms z) (nms.getD 0 noS) (nms.getD (nms.length - 1) noS) oth).take 8).map V.str) ++ ((((bentL (showS nms z) (nms.getD 0 noS) (nms.getD (nms.length - 1) noS) oth).drop 8).take 7).map V.str) ++ (((bentL (showS nms z) (nms.getD 0 noS) (nms.getD (nms.length - 1) noS) oth).drop 15).map V.str)))) a5 = some (.lst ((bentL (showS nms z) (nms.getD 0 noS) (nms.getD (nms.length - 1) noS) oth).map V.str)) := by rw [upd_same]; rfl
    generalize upd H6 a5 (.lst ((((bentL (showS nms z) (nms.getD 0 noS) (nms.getD (nms.length - 1) noS) oth).take 8).map V.str) ++ ((((bentL (showS nms z) (nms.getD 0 noS) (nms.getD (nms.length - 1) noS) oth).drop 8).take 7).map V.str) ++ (((bentL (showS nms z) (nms.getD 0 noS) (nms.getD (nms.length - 1) noS) oth).drop 15).map V.str))) = H7 at sA7 h5
    refine ⟨_, rfl, _, rfl, _, rfl, a5, _, rfl, .inl (SqL.of h5), c, 19, rfl, rfl, (by show 0 < 19; decide), ?_⟩
    have hc : c % 19 < (bentL (showS nms z) (nms.getD 0 noS) (nms.getD (nms.length - 1) noS) oth).length := Nat.mod_lt _ (by decide)
    obtain ⟨t, et⟩ : ∃ t, (bentL (showS nms z) (nms.getD 0 noS) (nms.getD (nms.length - 1) noS) oth)[c % 19]? = some t := ⟨_, List.getElem?_eq_getElem hc⟩
    obtain ⟨b1, b2⟩ := BB t (List.mem_of_getElem? et)
    refine ⟨a5, _, _, _, rfl, rfl, SqL.of h5, atI_nat (j := c % 19) (v := V.str t) (by rw [List.getElem?_map, et]; rfl), ?_⟩
    exact q t H7 b1 b2 sA7
end
end Own

namespace Own
open PySem L2
section
variable {P : Program} {w : World} {K : PySem.W.Frag} {mg : Str → Option Value} {base : Heap}
seal PySem.wpAny
noncomputable abbrev sRefused : Stmt := top 21
theorem scRefused : FnScope ["_law_names_here", "_law_text", "_law_by_base", "_law_marks", "e", "_law_told"] ["_law_names_here", "_law_text", "_law_by_base"] (defScope sRefused) := ⟨rfl, rfl, rfl, by decide +kernel, rfl, by decide +kernel, by decide +kernel⟩
theorem ok_refused {f fRS : Addr} {fd fdRS : FuncData} (F : Fun K "_law_refused" "_law_refused" sRefused f fd) {CCN : Addr} (mCN : mg "NoCut" = some (.ref CCN)) {CRW : Addr} (mRW : mg "NoRow" = some (.ref CRW)) {CST : Addr} (mST : mg "NoSet" = some (.ref CST)) {CTX : Addr} (mTX : mg "NoText" = some (.ref CTX)) {CTM : Addr} (mTM : mg "TooMany" = some (.ref CTM)) {CZE : Addr} (mZE : mg "SplitError" = some (.ref CZE)) (iST : ExcI K CST) (xST : PySem.W.exmOne K (.ref CST) (.ref CZE) = some true) (wST : PySem.W.exmOne K (.ref CST) (.ref CST) = some true) (oST : PySem.W.kitOne K (.ref CST) (.ref CST) = some true) (oVE : PySem.W.kitOne K (.ref CST) (.type "ValueError") = some true) (oCN : PySem.W.kitOne K (.ref CST) (.ref CCN) = some false) (oRW : PySem.W.kitOne K (.ref CST) (.ref CRW) = some false) (oTX : PySem.W.kitOne K (.ref CST) (.ref CTX) = some false) (oTM : PySem.W.kitOne K (.ref CST) (.ref CTM) = some false) (GRS : FnOk P w K mg base (CX1 P w) 2 fRS fdRS ["names", "text"] (spReadSet K CST)) (mRS : mg "read_set" = some (.ref fRS)) (kRS : PySem.W.keepIn K (.ref fRS) = true) (bRS : Binds K fdRS ["names", "text"] []) (zisinstance : mg "isinstance" = none) (zVE : mg "ValueError" = none) : FnOk P w K mg base CX0 3 f fd ["_law_names_here", "_law_text", "_law_by_base"] (spRefusedS K) := by
  refine F.ok scRefused (fun vs H Q E h => ?_) (fun cdv A outer s H vs Q E hr h => ?_)
  · obtain ⟨np, nms, t, b, rfl, _⟩ := h
    rfl
  · obtain ⟨np, nms, t, b, rfl, hn, NN, no, pt, q⟩ := h
    have nd := scRefused.nd
    have hr2 : Room 2 _ := hr.mono (by decide)
    refine ⟨_, (pss_cons (ps_set (i := 3) nd rfl (Or.inl rfl) (pe_lst pa_nil))
      (pss_cons (ps_if (pt_val (pv 2)) (pss_cons (ps_tryAsB (l := 4) (pt_expr GRS hr2 (by rfl) mRS kRS bRS (fun _ => (pa_cons (pv 0) (pa_cons (pv 1) pa_nil)))) (fun _ => (pss_cons (ps_set (i := 3) nd rfl (Or.inl rfl) (pe_lst (pa_cons (pe_callB (call_isE (K := K) rfl) (by rfl) zisinstance PyProof.Rows.boot_isinstance (pa_cons (pv 4) (pa_cons (pe_glob (v := .ref CST) (by rfl) mST rfl) pa_nil))) (pa_cons (pe_callB (call_isE (K := K) rfl) (by rfl) zisinstance PyProof.Rows.boot_isinstance (pa_cons (pv 4) (pa_cons (pe_bltn (v := .ty "ValueError") (by rfl) zVE PyProof.Rows.Boot.«ValueError» rfl) pa_nil))) pa_nil))))
      (pss_one (ps_expr (pe_bmK (K := K) rfl PySem.F.plainAttrs_list PySem.F.slot_list_append PySem.F.type_list_append mt_append (pv 3) (pa_cons (pe_callB (call_isET (K := K) rfl) (by rfl) zisinstance PyProof.Rows.boot_isinstance (pa_cons (pv 4) (pa_cons (pe_tup (pa_cons (pe_glob (v := .ref CCN) (by rfl) mCN rfl) (pa_cons (pe_glob (v := .ref CRW) (by rfl) mRW rfl) (pa_cons (pe_glob (v := .ref CTX) (by rfl) mTX rfl) (pa_cons (pe_glob (v := .ref CTM) (by rfl) mTM rfl) pa_nil))))) pa_nil))) pa_nil)))))) (by rfl) mZE rfl rfl nd rfl rfl)
      (pss_one (ps_ret (pe_cmpR (op_eqD (K := K) rfl hr.units) (pv 3) (pe_lst (pa_cons pe_bl (pa_cons pe_bl (pa_cons pe_bl pa_nil)))) (nomark _))))) pss_nil)
      (pss_cons (ps_set (i := 5) nd rfl (Or.inl rfl) pe_bl)
      (pss_cons (ps_tryNo (pt_expr GRS hr2 (by rfl) mRS kRS bRS (fun _ => (pa_cons (pv 0) (pa_cons (pv 1) pa_nil)))) (fun _ => pss_one (ps_set (i := 5) nd rfl (Or.inl rfl) pe_bl)) (by rfl) mST rfl rfl)
      (pss_one (ps_ret (pv 5))))))), ?_⟩
    refine ⟨(by show 0 ≤ sizeLine; decide), fun l0 hl0 => ?_⟩
    have s1 := Same.new (o := .lst []) hl0
    generalize upd H l0 (.lst []) = H1 at s1
    refine ⟨_, rfl, _, rfl, ?_⟩
    cases b with
    | true =>
      refine iteT ?_
      refine ⟨_, rfl, _, rfl, np, nms, t, rfl, s1.seq hn, NN, pt.len, pt.low, (fun e => absurd e no.1), (fun z H' _ _ hz e => absurd e (no.2 z hz)), fun _ H2 s2 => ⟨CST, rfl, xST, fun ea hea => ?_⟩⟩
      have s3 := (s1.trans s2).trans (Same.new (o := excO ea CST) hea)
      have he : (upd H2 ea (excO ea CST)) ea = some (excO ea CST) := upd_same
      generalize upd H2 ea (excO ea CST) = H3 at s3 he
      refine ⟨_, rfl, ea, CST, _, true, rfl, he, iST, (fun u hu => by cases hu; exact oST), _, rfl, ea, CST, _, true, rfl, he, iST, (fun u hu => by cases hu; exact oVE), (by show 2 ≤ sizeLine; decide), fun lm hlm => ?_⟩
      have s4 := Same.new (o := .lst [V.bl true, V.bl true]) hlm
      have hm : (upd H3 lm (.lst [V.bl true, V.bl true])) lm = some (.lst [V.bl true, V.bl true]) := upd_same
      have he4 := s4 _ _ he
      have nlm := s3.none hlm
      replace s4 := s3.trans s4
      generalize upd H3 lm (.lst [V.bl true, V.bl true]) = H4 at s4 hm he4
      refine ⟨_, rfl, .inl ⟨rfl, _, SqL.of hm⟩, _, rfl, (by show 4 ≤ sizeLine; decide), fun tp htp => ?_⟩
      have s5 := Same.new (o := .tup [V.ref CCN, V.ref CRW, V.ref CTX, V.ref CTM]) htp
      have ht5 : (upd H4 tp (.tup [V.ref CCN, V.ref CRW, V.ref CTX, V.ref CTM])) tp = some (.tup [V.ref CCN, V.ref CRW, V.ref CTX, V.ref CTM]) := upd_same
      have he5 := s5 _ _ he4
      have hm5 := s5 _ _ hm
      replace s5 := s4.trans s5
      generalize upd H4 tp (.tup [V.ref CCN, V.ref CRW, V.ref CTX, V.ref CTM]) = H5 at s5 ht5 he5 hm5
      refine ⟨ea, CST, tp, _, false, rfl, he5, iST, ht5, fun us hu => ?_, lm, _, _, rfl, rfl, hm5, (by show 2 < sizeLine; decide), ?_⟩
      · cases hu with | cons h1 hu => cases hu with | cons h2 hu => cases hu with | cons h3 hu => cases hu with | cons h4 hu => cases hu with | nil =>
        cases h1; cases h2; cases h3; cases h4
        unfold PySem.W.kitAny; rw [oCN]; unfold PySem.W.kitAny; rw [oRW]; unfold PySem.W.kitAny; rw [oTX]; unfold PySem.W.kitAny; rw [oTM]; rfl
      have s6 := s5.over (o := .lst ([V.bl true, V.bl true] ++ [V.bl false])) nlm
      have hm6 : (upd H5 lm (.lst ([V.bl true, V.bl true] ++ [V.bl false]))) lm = some (.lst [V.bl true, V.bl true, V.bl false]) := upd_same
      generalize upd H5 lm (.lst ([V.bl true, V.bl true] ++ [V.bl false])) = H6 at s6 hm6
      refine ⟨_, rfl, (by show 3 ≤ sizeLine; decide), fun lt hlt => ?_⟩
      have s7 := Same.new (o := .lst [V.bl true, V.bl true, V.bl false]) hlt
      have d3 : ∀ {HX : Hp} {p : Addr}, HX p = some (.lst [V.bl true, V.bl true, V.bl false]) → DV K HX (.ref p) (.list [.bool true, .bool true, .bool false]) := fun hp => .lst (SqL.of hp) (.cons (.bl _) (.cons (.bl _) (.cons (.bl _) .nil)))
      refine ⟨_, _, d3 (s7 _ _ hm6), d3 upd_same, by decide +kernel, by decide +kernel, by decide +kernel, ?_⟩
      exact q _ (s6.trans s7)
    | false =>
      refine iteF ?_
      refine ⟨_, rfl, _, rfl, np, nms, t, rfl, s1.seq hn, NN, pt.len, pt.low, (fun e => absurd e no.1), (fun z H' _ _ hz e => absurd e (no.2 z hz)), fun _ H2 s2 => ⟨CST, rfl, wST, fun ea hea => ?_⟩⟩
      exact ⟨_, rfl, q _ ((s1.trans s2).trans (Same.new hea))⟩
end
end Own

namespace Own
open PySem L2
section
variable {P : Program} {w : World} {K : PySem.W.Frag} {mg : Str → Option Value} {base : Heap}
seal PySem.wpAny
noncomputable def spLaw (K : PySem.W.Frag) : Sp := fun vs H Q _ => ∃ (a : Addr) (ns : List Int), vs = [.ref a] ∧ SqF K H a ns ∧ ns.length ≤ 63 ∧ ∀ H', Q (.bl true) H'
noncomputable abbrev sLaw : Stmt := top 22
theorem scLaw : FnScope ["_law_script", "_law_names_here", "_law_handed", "_law_k", "_law_cell", "_law_some", "_law_text", "_law_got", "_law_bent_here"] ["_law_script"] (defScope sLaw) := ⟨rfl, rfl, rfl, by decide +kernel, rfl, by decide +kernel, by decide +kernel⟩
theorem ok_law {f fCA fNA fSE fSS fRS fBE fRF CST : Addr} {fd fdCA fdNA fdSE fdSS fdRS fdBE fdRF : FuncData} (F : Fun K "law" "law" sLaw f fd) (GCA : FnOk P w K mg base CX0 1 fCA fdCA ["_law_script", "_law_k"] (spCellD K)) (mCA : mg "_law_cell_at" = some (.ref fCA)) (kCA : PySem.W.keepIn K (.ref fCA) = true) (bCA : Binds K fdCA ["_law_script", "_law_k"] []) (GNA : FnOk P w K mg base CX0 1 fNA fdNA ["_law_cell", "_law_count"] spNames82) (mNA : mg "_law_names" = some (.ref fNA)) (kNA : PySem.W.keepIn K (.ref fNA) = true) (bNA : Binds K fdNA ["_law_cell", "_law_count"] []) (GSE : FnOk P w K mg base CX0 2 fSE fdSE ["_law_names_here", "_law_some"] (spShowS K)) (mSE : mg "_law_set" = some (.ref fSE)) (kSE : PySem.W.keepIn K (.ref fSE) = true) (bSE : Binds K fdSE ["_law_names_here", "_law_some"] []) (GSS : FnOk P w K mg base CX0 4 fSS fdSS ["names", "some"] (spShowS K)) (mSS : mg "show_set" = some (.ref fSS)) (kSS : PySem.W.keepIn K (.ref fSS) = true) (bSS : Binds K fdSS ["names", "some"] []) (GRS : FnOk P w K mg base CX0 2 fRS fdRS ["names", "text"] (fun vs H Q _ => spReadSet K CST vs H Q fun _ _ _ => False)) (mRS : mg "read_set" = some (.ref fRS)) (kRS : PySem.W.keepIn K (.ref fRS) = true) (bRS : Binds K fdRS ["names", "text"] []) (GBE : FnOk P w K mg base CX0 3 fBE fdBE ["_law_names_here", "_law_some", "_law_cell"] (spBent82 K)) (mBE : mg "_law_bent" = some (.ref fBE)) (kBE : PySem.W.keepIn K (.ref fBE) = true) (bBE : Binds K fdBE ["_law_names_here", "_law_some", "_law_cell"] []) (GRF : FnOk P w K mg base CX0 3 fRF fdRF ["_law_names_here", "_law_text", "_law_by_base"] (spRefusedS K)) (mRF : mg "_law_refused" = some (.ref fRF)) (kRF : PySem.W.keepIn K (.ref fRF) = true) (bRF : Binds K fdRF ["_law_names_here", "_law_text", "_law_by_base"] []) (zlist : mg "list" = none) (zrange : mg "range" = none) (zlen : mg "len" = none) (zisinstance : mg "isinstance" = none) (zint : mg "int" = none) (zbool : mg "bool" = none) : FnOk P w K mg base CX0 5 f fd ["_law_script"] (spLaw K) := by
  refine F.ok scLaw (fun vs H Q E h => ?_) (fun cdv A outer s H vs Q E hr h => ?_)
  · obtain ⟨a, ns, rfl, _⟩ := h
    rfl
  · obtain ⟨a, ns, rfl, hS, hlen, q⟩ := h
    have nd := scLaw.nd
    have hr1 : Room 1 _ := hr.mono (by decide)
    have hr2 : Room 2 _ := hr.mono (by decide)
    have hr3 : Room 3 _ := hr.mono (by decide)
    have hr4 : Room 4 _ := hr.mono (by decide)
    have hS' : ∀ {H' : Hp}, Same H H' → SqL K H' a (ns.map V.int) := fun e => e.seq hS.sq
    refine ⟨_, (pss_cons (ps_set (i := 1) nd rfl (Or.inl rfl) (pe_call GNA hr1 rfl mNA kNA bNA .nil pass0 (pa_cons (pe_call GCA hr1 rfl mCA kCA bCA .nil pass0 (pa_cons (pv 0) (pa_cons pe_int pa_nil))) (pa_cons (pe_op op_addN pe_int (pe_op op_modN' (pe_call GCA hr1 rfl mCA kCA bCA .nil pass0 (pa_cons (pv 0) (pa_cons pe_int pa_nil))) pe_int)) pa_nil))))
      (pss_cons (ps_set (i := 2) nd rfl (Or.inl rfl) (pe_callTy (call_listK (K := K) rfl) (by rfl) zlist PyProof.Rows.boot_list (pa_cons (pv 1) pa_nil)))
      (pss_cons (ps_for PassesOwn.never rfl (pi_range1 rfl zrange (pa_cons pe_int pa_nil)) (pg_name (i := 3) nd rfl (Or.inl rfl)) (pss_cons (ps_set (i := 4) nd rfl (Or.inl rfl) (pe_call GCA hr1 rfl mCA kCA bCA .nil pass0 (pa_cons (pv 0) (pa_cons (pe_op op_addN pe_int (pv 3)) pa_nil))))
      (pss_cons (ps_set (i := 5) nd rfl (Or.inl rfl) (pe_op op_modN' (pv 4) (pe_op op_shl1 pe_int (pe_callB (call_lenK (K := K) rfl) (by rfl) zlen PySem.boot_len (pa_cons (pv 1) pa_nil)))))
      (pss_cons (ps_set (i := 6) nd rfl (Or.inl rfl) (pe_call GSE hr2 rfl mSE kSE bSE .nil pass0 (pa_cons (pv 1) (pa_cons (pv 5) pa_nil))))
      (pss_cons (ps_if (pt_cmpR op_ne (pe_call GSS hr4 rfl mSS kSS bSS .nil pass0 (pa_cons (pv 2) (pa_cons (pv 5) pa_nil))) (pv 6) (nomark _)) (pss_one (ps_ret pe_bl)) pss_nil)
      (pss_cons (ps_set (i := 7) nd rfl (Or.inl rfl) (pe_call GRS hr2 rfl mRS kRS bRS .nil pass0 (pa_cons (pv 2) (pa_cons (pv 6) pa_nil))))
      (pss_cons (ps_if (PW.pt (pw_or (pt_not (pt_val (pe_callB (call_isK (K := K) rfl) (by rfl) zisinstance PyProof.Rows.boot_isinstance (pa_cons (pv 7) (pa_cons (pe_bltn (v := .ty "int") rfl zint PyProof.Rows.boot_int rfl) pa_nil))))) (pw_or (pt_val (pe_callB (call_isK (K := K) rfl) (by rfl) zisinstance PyProof.Rows.boot_isinstance (pa_cons (pv 7) (pa_cons (pe_bltn (v := .ty "bool") rfl zbool PyProof.Rows.boot_bool rfl) pa_nil)))) (pw_or1 (pt_cmpR op_neN (pv 7) (pv 5) (nomark _)))))) (pss_one (ps_ret pe_bl)) pss_nil)
      (pss_cons (ps_set (i := 8) nd rfl (Or.inl rfl) (pe_call GBE hr3 rfl mBE kBE bBE .nil pass0 (pa_cons (pv 1) (pa_cons (pv 5) (pa_cons (pe_op op_fdivN' (pv 4) pe_int) pa_nil)))))
      (pss_one (ps_if (PW.pt (pw_or (pt_not (pt_val (pe_call GRF hr3 rfl mRF kRF bRF .nil pass0 (pa_cons (pv 2) (pa_cons (pv 8) (pa_cons (pe_cmpR op_eqN (pe_op op_modN' (pe_op op_fdivN' (pv 4) pe_int) pe_int) pe_int (nomark _)) pa_nil)))))) (pw_or1 (pt_cmpR (op_neD (K := K) rfl hr.units) (pv 2) (pv 1) (nomark _))))) (pss_one (ps_ret pe_bl)) pss_nil))))))))))
      (pss_one (ps_ret pe_bl))))), ?_⟩
    refine ⟨_, rfl, a, ns, 1, rfl, hS.sq, by omega, _, rfl, a, ns, 0, rfl, hS.sq, by omega, cellN ns 0, 7, rfl, rfl, (by show 0 < 7; decide), 1, cellN ns 0 % 7, rfl, rfl, cellN ns 1, 1 + cellN ns 0 % 7, rfl, by omega, by omega, fun nms nl H1 NN en s1 hnl0 hnl => ?_⟩
    clear en
    have l7 := NN.l7
    refine ⟨_, rfl, nl, _, rfl, .inl (SqL.of hnl), fun hl hhl0 => ?_⟩
    have s2 := Same.new (o := .lst (nms.map V.str)) hhl0
    have hhl : (upd H1 hl (.lst (nms.map V.str))) hl = some (.lst (nms.map V.str)) := upd_same
    have hnl2 := s2 _ _ hnl
    replace s2 := s1.trans s2
    generalize upd H1 hl (.lst (nms.map V.str)) = H2 at s2 hhl hnl2
    refine ⟨16, rfl, by decide, by decide, for_rangeN (n := 16) (fun i σ H' => (∃ v3 v4 v5 v6 v7 v8, σ = [some (.ref a), some (.ref nl), some (.ref hl), v3, v4, v5, v6, v7, v8]) ∧ Same H2 H') ⟨⟨_, _, _, _, _, _, rfl⟩, Same.refl _⟩ ?_ ?_⟩
    · rintro i σ H3 hi ⟨⟨v3, v4, v5, v6, v7, v8, rfl⟩, s3⟩
      refine ⟨_, rfl, _, rfl, 4, i, rfl, rfl, a, ns, 4 + i, rfl, hS' (s2.trans s3), by omega, ?_⟩
      generalize cellN ns (4 + i) = cl
      have lm : (nms.map V.str).length = nms.length := List.length_map ..
      refine ⟨_, rfl, _, rfl, nl, _, rfl, .inl (SqL.of (s3 _ _ hnl2)), (nms.map V.str).length, rfl, rfl, by omega, cl, 2 ^ (nms.map V.str).length, rfl, rfl, Nat.two_pow_pos _, ?_⟩
      rw [lm]
      have hz : cl % 2 ^ nms.length < 2 ^ nms.length := Nat.mod_lt _ (Nat.two_pow_pos _)
      dsimp (config := { proj := false, iota := false }) only
      generalize cl % 2 ^ nms.length = z at hz
      refine ⟨_, rfl, _, rfl, nl, nms, z, rfl, SqL.of (s3 _ _ hnl2), NN, hz, fun H4 s4 => ?_⟩
      replace s4 := s3.trans s4
      refine ⟨_, rfl, _, rfl, hl, nms, z, rfl, SqL.of (s4 _ _ hhl), NN, hz, fun H5 s5 => ?_⟩
      replace s5 := s4.trans s5
      refine ⟨_, rfl, rfl, _, rfl, ?_⟩
      refine ite2 (fun hc => absurd hc (by simp)) (fun _ => ?_)
      have hp := show_pl NN hz
      refine ⟨_, rfl, _, rfl, hl, nms, showS nms z, rfl, SqL.of (s5 _ _ hhl), NN, Nat.le_trans hp.len (by decide), hp.low, ?A, ?B, ?C⟩
      case C =>
        intro no
        exfalso
        by_cases h0 : z = 0
        · exact no.1 (by unfold showS; rw [if_pos h0])
        · exact no.2 z hz (by unfold showS; rw [if_neg h0]; exact show_split NN hz h0)
      case' A =>
        intro ed
        have zz : z = 0 := Classical.byContradiction fun h0 => by
          unfold showS at ed
          rw [if_neg h0] at ed
          have hd : (45 : Nat) ∈ dashS.cps.toList := List.mem_singleton.mpr rfl
          rw [← ed] at hd
          rcases join_signs (fun p hp' => nm_okC NN (in_mem NN hz hp')) 45 hd with h | h <;> omega
        rw [show vN 0 = vN z by rw [zz]]
        have s6 := s5
        generalize H5 = H6 at s6
      case' B =>
        intro z' H6 s6 td hz' es
        have h0 : z ≠ 0 := fun h0 => td (by unfold showS; rw [if_pos h0])
        have : z' = z := by
          unfold showS at es
          rw [if_neg h0, show_split NN hz h0] at es
          exact (in_inj NN hz hz' es).symm
        subst this
        replace s6 := s5.trans s6
      all_goals
        refine ⟨_, rfl, _, _, _, true, rfl, .int _, rfl, _, rfl, iteF ?_⟩
        refine ⟨_, rfl, _, _, _, false, rfl, .int _, rfl, _, rfl, iteF ?_⟩
        refine ⟨_, rfl, _, rfl, _, _, rfl, rfl, _, rfl, ?_⟩
        refine ite2 (fun hc => absurd hc (by simp)) (fun _ => ?_)
        refine ⟨_, rfl, _, rfl, _, rfl, cl, 128, rfl, rfl, ⟨by decide, by decide⟩, nl, nms, _, cl / 128, rfl, SqL.of (s6 _ _ hnl2), NN, by assumption, fun t H7 nt pt s7 => ?_⟩
        replace s7 := s6.trans s7
        refine ⟨_, rfl, _, rfl, _, rfl, cl, 5, rfl, rfl, ⟨by decide, by decide⟩, cl / 5, 2, rfl, rfl, (by show 0 < 2; decide), cl / 5 % 2, 0, rfl, rfl, hl, nms, t, _, rfl, SqL.of (s7 _ _ hhl), NN, nt, pt, fun H8 s8 => ?_⟩
        replace s8 := s7.trans s8
        refine ⟨_, rfl, iteF ?_⟩
        have low : ∀ w ∈ nms, ∀ c ∈ w.cps.toList, c < 256 := fun w hw => (nm_pl NN hw).low
        refine ⟨_, rfl, _, rfl, .list (nms.map PyData.str), .list (nms.map PyData.str), .lst (SqL.of (s8 _ _ hhl)) (strs_dv nms), .lst (SqL.of (s8 _ _ hnl2)) (strs_dv nms), shaped_strs low, shaped_strs low, noMix_list noMix_dS _ _, _, rfl, ?_⟩
        rw [if_pos rfl, same_list same_dS, decide_eq_true rfl]
        exact iteF ⟨⟨_, _, _, _, _, _, rfl⟩, s8⟩
    · rintro σ H3 ⟨⟨v3, v4, v5, v6, v7, v8, rfl⟩, s3⟩
      exact q _
end
end Own

namespace Own
open PySem L2
/-! what the top has written, and the law's own head -/
theorem all_mk {l : PySem.W.OpenLaw} {w : World} {K : PySem.W.Frag} {h : Heap} {mg : Str → Option Value} {fa fH fC fSN fNI fSS fRS fCA fNA fIN fSE fBE fRF fQ : Addr} (X : K.In h) (G : h.Ns mainGlobals mg) (hfa : mg "law" = some (.ref fa))
    {odH anH odC anC odSN anSN odNI anNI odSS anSS odRS anRS odCA anCA odNA anNA odIN anIN odSE anSE odBE anBE odRF anRF odQ anQ : Option Addr} {slH slC slSN slNI slSS slRS slCA slNA slIN slSE slBE slRF slQ : Array (Option Value)} {ocH kVH dcH pmH cdH ctH ocC kVC dcC pmC cdC ctC ocSN kVSN dcSN pmSN cdSN ctSN ocNI kVNI dcNI pmNI cdNI ctNI ocSS kVSS dcSS pmSS cdSS ctSS ocRS kVRS dcRS pmRS cdRS ctRS ocCA kVCA dcCA pmCA cdCA ctCA ocNA kVNA dcNA pmNA cdNA ctNA ocIN kVIN dcIN pmIN cdIN ctIN ocSE kVSE dcSE pmSE cdSE ctSE ocBE kVBE dcBE pmBE cdBE ctBE ocRF kVRF dcRF pmRF cdRF ctRF ocQ kVQ dcQ pmQ cdQ ctQ : Value}
    (aH : PySem.W.nsIn K mainGlobals "has_column" = some (some (.ref fH))) (lH : K.lookup fH = some ⟨ocH, odH, .func (PySem.W.fnOf "has_column" "has_column" (defArgs sHas) (defBody sHas) (defScope sHas) .none kVH dcH pmH anH cdH ctH), slH⟩) (cH : PySem.W.codeIn K cdH "has_column" = true) (kH : PySem.W.keepIn K (.ref fH) = true)
    (aC : PySem.W.nsIn K mainGlobals "columns_of" = some (some (.ref fC))) (lC : K.lookup fC = some ⟨ocC, odC, .func (PySem.W.fnOf "columns_of" "columns_of" (defArgs sCols) (defBody sCols) (defScope sCols) .none kVC dcC pmC anC cdC ctC), slC⟩) (cC : PySem.W.codeIn K cdC "columns_of" = true) (kC : PySem.W.keepIn K (.ref fC) = true)
    (aSN : PySem.W.nsIn K mainGlobals "set_named" = some (some (.ref fSN))) (lSN : K.lookup fSN = some ⟨ocSN, odSN, .func (PySem.W.fnOf "set_named" "set_named" (defArgs sSetN) (defBody sSetN) (defScope sSetN) .none kVSN dcSN pmSN anSN cdSN ctSN), slSN⟩) (cSN : PySem.W.codeIn K cdSN "set_named" = true) (kSN : PySem.W.keepIn K (.ref fSN) = true)
    (aNI : PySem.W.nsIn K mainGlobals "names_in" = some (some (.ref fNI))) (lNI : K.lookup fNI = some ⟨ocNI, odNI, .func (PySem.W.fnOf "names_in" "names_in" (defArgs sNamesIn) (defBody sNamesIn) (defScope sNamesIn) .none kVNI dcNI pmNI anNI cdNI ctNI), slNI⟩) (cNI : PySem.W.codeIn K cdNI "names_in" = true) (kNI : PySem.W.keepIn K (.ref fNI) = true)
    (aSS : PySem.W.nsIn K mainGlobals "show_set" = some (some (.ref fSS))) (lSS : K.lookup fSS = some ⟨ocSS, odSS, .func (PySem.W.fnOf "show_set" "show_set" (defArgs sShowSet) (defBody sShowSet) (defScope sShowSet) .none kVSS dcSS pmSS anSS cdSS ctSS), slSS⟩) (cSS : PySem.W.codeIn K cdSS "show_set" = true) (kSS : PySem.W.keepIn K (.ref fSS) = true)
    (aRS : PySem.W.nsIn K mainGlobals "read_set" = some (some (.ref fRS))) (lRS : K.lookup fRS = some ⟨ocRS, odRS, .func (PySem.W.fnOf "read_set" "read_set" (defArgs sReadSet) (defBody sReadSet) (defScope sReadSet) .none kVRS dcRS pmRS anRS cdRS ctRS), slRS⟩) (cRS : PySem.W.codeIn K cdRS "read_set" = true) (kRS : PySem.W.keepIn K (.ref fRS) = true)
    (aCA : PySem.W.nsIn K mainGlobals "_law_cell_at" = some (some (.ref fCA))) (lCA : K.lookup fCA = some ⟨ocCA, odCA, .func (PySem.W.fnOf "_law_cell_at" "_law_cell_at" (defArgs sCellAt) (defBody sCellAt) (defScope sCellAt) .none kVCA dcCA pmCA anCA cdCA ctCA), slCA⟩) (cCA : PySem.W.codeIn K cdCA "_law_cell_at" = true) (kCA : PySem.W.keepIn K (.ref fCA) = true)
    (aNA : PySem.W.nsIn K mainGlobals "_law_names" = some (some (.ref fNA))) (lNA : K.lookup fNA = some ⟨ocNA, odNA, .func (PySem.W.fnOf "_law_names" "_law_names" (defArgs sNames) (defBody sNames) (defScope sNames) .none kVNA dcNA pmNA anNA cdNA ctNA), slNA⟩) (cNA : PySem.W.codeIn K cdNA "_law_names" = true) (kNA : PySem.W.keepIn K (.ref fNA) = true)
    (aIN : PySem.W.nsIn K mainGlobals "_law_in" = some (some (.ref fIN))) (lIN : K.lookup fIN = some ⟨ocIN, odIN, .func (PySem.W.fnOf "_law_in" "_law_in" (defArgs sIn) (defBody sIn) (defScope sIn) .none kVIN dcIN pmIN anIN cdIN ctIN), slIN⟩) (cIN : PySem.W.codeIn K cdIN "_law_in" = true) (kIN : PySem.W.keepIn K (.ref fIN) = true)
    (aSE : PySem.W.nsIn K mainGlobals "_law_set" = some (some (.ref fSE))) (lSE : K.lookup fSE = some ⟨ocSE, odSE, .func (PySem.W.fnOf "_law_set" "_law_set" (defArgs sSet) (defBody sSet) (defScope sSet) .none kVSE dcSE pmSE anSE cdSE ctSE), slSE⟩) (cSE : PySem.W.codeIn K cdSE "_law_set" = true) (kSE : PySem.W.keepIn K (.ref fSE) = true)
    (aBE : PySem.W.nsIn K mainGlobals "_law_bent" = some (some (.ref fBE))) (lBE : K.lookup fBE = some ⟨ocBE, odBE, .func (PySem.W.fnOf "_law_bent" "_law_bent" (defArgs sBent) (defBody sBent) (defScope sBent) .none kVBE dcBE pmBE anBE cdBE ctBE), slBE⟩) (cBE : PySem.W.codeIn K cdBE "_law_bent" = true) (kBE : PySem.W.keepIn K (.ref fBE) = true)
    (aRF : PySem.W.nsIn K mainGlobals "_law_refused" = some (some (.ref fRF))) (lRF : K.lookup fRF = some ⟨ocRF, odRF, .func (PySem.W.fnOf "_law_refused" "_law_refused" (defArgs sRefused) (defBody sRefused) (defScope sRefused) .none kVRF dcRF pmRF anRF cdRF ctRF), slRF⟩) (cRF : PySem.W.codeIn K cdRF "_law_refused" = true) (kRF : PySem.W.keepIn K (.ref fRF) = true)
    (aQ : PySem.W.nsIn K mainGlobals "law" = some (some (.ref fQ))) (lQ : K.lookup fQ = some ⟨ocQ, odQ, .func (PySem.W.fnOf "law" "law" (defArgs sLaw) (defBody sLaw) (defScope sLaw) .none kVQ dcQ pmQ anQ cdQ ctQ), slQ⟩) (cQ : PySem.W.codeIn K cdQ "law" = true) (kQ : PySem.W.keepIn K (.ref fQ) = true)
    
    {CCN CRW CST CTX CTM CZE : Addr} (aCN : PySem.W.nsIn K mainGlobals "NoCut" = some (some (.ref CCN))) (aRW : PySem.W.nsIn K mainGlobals "NoRow" = some (some (.ref CRW))) (aST : PySem.W.nsIn K mainGlobals "NoSet" = some (some (.ref CST))) (aTX : PySem.W.nsIn K mainGlobals "NoText" = some (some (.ref CTX))) (aTM : PySem.W.nsIn K mainGlobals "TooMany" = some (some (.ref CTM))) (aZE : PySem.W.nsIn K mainGlobals "SplitError" = some (some (.ref CZE))) (eST : PySem.W.excIn K CST [.type "ValueError", .type "Exception", .type "BaseException", .type "object"] "ValueError.__new__" = true) (pST : PySem.W.findIn K (.ref CST) "__getattribute__" = some (some (.builtin "BaseException.__getattribute__"))) (nST : PySem.W.findIn K (.ref CST) "__getattr__" = some none) (sST : PySem.W.subIn K (.ref CST) (.type "BaseException") = some true) (hST : PySem.W.hasDictIn K CST = true) (fST : PySem.W.findIn K (.ref CST) "__class__" = some (some (.builtin "object.__class__"))) (gST : PySem.W.specialIn K (.builtin "object.__class__") "__get__" = some (some (.builtin "getset_descriptor.__get__"))) (tST : PySem.W.takesIn K (.builtin "object.__class__") = some true) (rST : PySem.W.mroIn K CST (.type "object") = some true) (xST : PySem.W.exmOne K (.ref CST) (.ref CZE) = some true) (oVE : PySem.W.kitOne K (.ref CST) (.type "ValueError") = some true) (oCN : PySem.W.kitOne K (.ref CST) (.ref CCN) = some false) (oRW : PySem.W.kitOne K (.ref CST) (.ref CRW) = some false) (oST : PySem.W.kitOne K (.ref CST) (.ref CST) = some true) (oTX : PySem.W.kitOne K (.ref CST) (.ref CTX) = some false) (oTM : PySem.W.kitOne K (.ref CST) (.ref CTM) = some false) (wST : PySem.W.exmOne K (.ref CST) (.ref CST) = some true)
    (ylen : PySem.W.nsIn K mainGlobals "len" = some none) (yrange : PySem.W.nsIn K mainGlobals "range" = some none) (ylist : PySem.W.nsIn K mainGlobals "list" = some none) (yint : PySem.W.nsIn K mainGlobals "int" = some none) (ybool : PySem.W.nsIn K mainGlobals "bool" = some none) (yisinstance : PySem.W.nsIn K mainGlobals "isinstance" = some none) (ystr : PySem.W.nsIn K mainGlobals "str" = some none) (yValueError : PySem.W.nsIn K mainGlobals "ValueError" = some none) :
    ∃ fd : FuncData, (∀ (s : Shared) (v : Value), BindsTo s fd ⟨[v], []⟩ [("_law_script", v)]) ∧ ∀ base : Heap, K.In base → base.Ns mainGlobals mg → FnOk l.prog w K mg base CX0 5 fa fd ["_law_script"] (spLaw K) := by
  have e := hfa.symm.trans (PySem.W.mg_of X G aQ)
  cases e
  have FH := fun_mk (st := sHas) lH cH kH
  have mH := PySem.W.mg_of X G aH
  have bH := FH.binds (ps := ["some", "column"]) fun _ _ _ _ _ _ us hl => match us, hl with | [_, _], _ => rfl
  have FC := fun_mk (st := sCols) lC cC kC
  have mC := PySem.W.mg_of X G aC
  have bC := FC.binds (ps := ["some"]) fun _ _ _ _ _ _ us hl => match us, hl with | [_], _ => rfl
  have FSN := fun_mk (st := sSetN) lSN cSN kSN
  have mSN := PySem.W.mg_of X G aSN
  have bSN := FSN.binds (ps := ["names", "words"]) fun _ _ _ _ _ _ us hl => match us, hl with | [_, _], _ => rfl
  have FNI := fun_mk (st := sNamesIn) lNI cNI kNI
  have mNI := PySem.W.mg_of X G aNI
  have bNI := FNI.binds (ps := ["names", "some"]) fun _ _ _ _ _ _ us hl => match us, hl with | [_, _], _ => rfl
  have FSS := fun_mk (st := sShowSet) lSS cSS kSS
  have mSS := PySem.W.mg_of X G aSS
  have bSS := FSS.binds (ps := ["names", "some"]) fun _ _ _ _ _ _ us hl => match us, hl with | [_, _], _ => rfl
  have FRS := fun_mk (st := sReadSet) lRS cRS kRS
  have mRS := PySem.W.mg_of X G aRS
  have bRS := FRS.binds (ps := ["names", "text"]) fun _ _ _ _ _ _ us hl => match us, hl with | [_, _], _ => rfl
  have FCA := fun_mk (st := sCellAt) lCA cCA kCA
  have mCA := PySem.W.mg_of X G aCA
  have bCA := FCA.binds (ps := ["_law_script", "_law_k"]) fun _ _ _ _ _ _ us hl => match us, hl with | [_, _], _ => rfl
  have FNA := fun_mk (st := sNames) lNA cNA kNA
  have mNA := PySem.W.mg_of X G aNA
  have bNA := FNA.binds (ps := ["_law_cell", "_law_count"]) fun _ _ _ _ _ _ us hl => match us, hl with | [_, _], _ => rfl
  have FIN := fun_mk (st := sIn) lIN cIN kIN
  have mIN := PySem.W.mg_of X G aIN
  have bIN := FIN.binds (ps := ["_law_names_here", "_law_some"]) fun _ _ _ _ _ _ us hl => match us, hl with | [_, _], _ => rfl
  have FSE := fun_mk (st := sSet) lSE cSE kSE
  have mSE := PySem.W.mg_of X G aSE
  have bSE := FSE.binds (ps := ["_law_names_here", "_law_some"]) fun _ _ _ _ _ _ us hl => match us, hl with | [_, _], _ => rfl
  have FBE := fun_mk (st := sBent) lBE cBE kBE
  have mBE := PySem.W.mg_of X G aBE
  have bBE := FBE.binds (ps := ["_law_names_here", "_law_some", "_law_cell"]) fun _ _ _ _ _ _ us hl => match us, hl with | [_, _, _], _ => rfl
  have FRF := fun_mk (st := sRefused) lRF cRF kRF
  have mRF := PySem.W.mg_of X G aRF
  have bRF := FRF.binds (ps := ["_law_names_here", "_law_text", "_law_by_base"]) fun _ _ _ _ _ _ us hl => match us, hl with | [_, _, _], _ => rfl
  have FQ := fun_mk (st := sLaw) lQ cQ kQ
  have mQ := PySem.W.mg_of X G aQ
  have zlen := PySem.W.mg_none_of X G ylen
  have zrange := PySem.W.mg_none_of X G yrange
  have zlist := PySem.W.mg_none_of X G ylist
  have zint := PySem.W.mg_none_of X G yint
  have zbool := PySem.W.mg_none_of X G ybool
  have zisinstance := PySem.W.mg_none_of X G yisinstance
  have zstr := PySem.W.mg_none_of X G ystr
  have zValueError := PySem.W.mg_none_of X G yValueError
  refine ⟨PySem.W.fnOf "law" "law" (defArgs sLaw) (defBody sLaw) (defScope sLaw) .none kVQ dcQ pmQ anQ cdQ ctQ, fun s v => .of_eq rfl, fun base _ _ => ?_⟩
  have mCN := PySem.W.mg_of X G aCN
  have mRW := PySem.W.mg_of X G aRW
  have mST := PySem.W.mg_of X G aST
  have mTX := PySem.W.mg_of X G aTX
  have mTM := PySem.W.mg_of X G aTM
  have mZE := PySem.W.mg_of X G aZE
  have GH := ok_has (P := l.prog) (w := w) (mg := mg) (base := base) FH
  have GC := ok_cols FC GH mH kH bH zrange
  have GSN := ok_setn (P := l.prog) (w := w) (mg := mg) (base := base) FSN
  have GNI := ok_namesin FNI GC mC kC bC
  have GSS := ok_showset FSS GNI mNI kNI bNI
  have OST : Exc K "NoSet" CST := ⟨aST, eST⟩
  have iST : ExcI K CST := ⟨pST, nST, sST, hST, fST, gST, tST, rST⟩
  have GRS := ok_readset FRS GSN mSN kSN bSN OST zisinstance zstr
  have GCA := ok_cellat (P := l.prog) (w := w) (base := base) FCA zlen
  have GNA := ok_names (P := l.prog) (w := w) (base := base) FNA zrange
  have GIN := ok_in (P := l.prog) (w := w) (base := base) FIN zrange zlen
  have GSE := ok_set FSE GIN mIN kIN bIN
  have GBE := ok_bent FBE GSE mSE kSE bSE zlen
  have GRF := ok_refused FRF mCN mRW mST mTX mTM mZE iST xST wST oST oVE oCN oRW oTX oTM GRS mRS kRS bRS zisinstance zValueError
  exact ok_law FQ GCA mCA kCA bCA GNA mNA kNA bNA GSE mSE kSE bSE GSS mSS kSS bSS GRS.calm mRS kRS bRS GBE mBE kBE bBE GRF mRF kRF bRF zlist zrange zlen zisinstance zint zbool
theorem walk {l : PySem.W.OpenLaw} {q : Program} {loose : List Str} {XP : (Str → Option Value) → Heap → Prop} {YP : World → Heap → Prop} {d : DefRec} {K : Params → PySem.W.Frag} (hn : l.most = some 63) (hdf : d.params.defaults = [])
    (hY : ∀ (w : World) (h : Heap), YP w h → (K w.params).In h)
    (F : ∀ (w : World) (mg : Str → Option Value) (fa : Addr) (h : Heap), (K w.params).In h → h.Ns mainGlobals mg → mg d.name = some (.ref fa) →
      ∃ fd : FuncData, (∀ (s : Shared) (u : Value), BindsTo s fd ⟨[u], []⟩ [("_law_script", u)]) ∧ ∀ base : Heap, (K w.params).In base → base.Ns mainGlobals mg → FnOk l.prog w (K w.params) mg base CX0 5 fa fd ["_law_script"] (spLaw (K w.params))) :
    PySem.W.WalkO q loose XP YP l.row.toRowW d [] (fun f vs => PySem.call f vs) :=
  L2.walk_of (n := 63) (k := 5) (x := "_law_script") (CX := fun _ => CX0) (sp := fun w => spLaw (K w.params)) hn (by decide) hdf ⟨rfl, by decide, by decide⟩ hY F (fun _ _ a ns hl hO hS => ⟨a, ns, rfl, SqF.of hO hS, hl, fun _ => rfl⟩) fun _ _ _ _ _ z => z
end Own
/-! names laid ahead, so that the head makes no twins of heaps, trees and the whole text: its own evaluation is quick without them -/
noncomputable def PySem.W.Fast.tw16967199790581272383 : Unit := ()
noncomputable def PySem.W.Fast.tw17160213245269451300 : Unit := ()
noncomputable def PySem.W.Fast.tw3613290881576547670 : Unit := ()
noncomputable def PySem.W.Fast.tw4330481360794520059 : Unit := ()
noncomputable def PySem.W.Fast.tw11798741220188800005 : Unit := ()
noncomputable def PySem.W.Fast.tw8618509492282950090 : Unit := ()
open PySem PySem.W PyProof.Rows
set_option maxRecDepth 100000 in
set_option maxHeartbeats 0 in
theorem PySem.Challenge.cw_splithouse_k82_sets_written_holds : PySem.Challenge.rw_splithouse_k82_sets_written.Holds := by
  w_on; o_law; k_head; (case hw => w_witness2)
  k_fill
  refine Own.walk (l := PySem.Challenge.rw_splithouse_k82_sets_written) rfl rfl (fun w h Y => PySem.W.kIn_of Y) ?F
  case F =>
    intro w mg fa h KX G hmg
    refine' Own.all_mk KX G hmg ?aH ?lH ?cH ?kH ?aC ?lC ?cC ?kC ?aSN ?lSN ?cSN ?kSN ?aNI ?lNI ?cNI ?kNI ?aSS ?lSS ?cSS ?kSS ?aRS ?lRS ?cRS ?kRS ?aCA ?lCA ?cCA ?kCA ?aNA ?lNA ?cNA ?kNA ?aIN ?lIN ?cIN ?kIN ?aSE ?lSE ?cSE ?kSE ?aBE ?lBE ?cBE ?kBE ?aRF ?lRF ?cRF ?kRF ?aQ ?lQ ?cQ ?kQ ?aCN ?aRW ?aST ?aTX ?aTM ?aZE ?eST ?pST ?nST ?sST ?hST ?fST ?gST ?tST ?rST ?xST ?oVE ?oCN ?oRW ?oST ?oTX ?oTM ?wST ?ylen ?yrange ?ylist ?yint ?ybool ?yisinstance ?ystr ?yValueError
    (case aH => k_is)
    (case lH => k_is)
    (case cH => k_is)
    (case kH => k_is)
    (case aC => k_is)
    (case lC => k_is)
    (case cC => k_is)
    (case kC => k_is)
    (case aSN => k_is)
    (case lSN => k_is)
    (case cSN => k_is)
    (case kSN => k_is)
    (case aNI => k_is)
    (case lNI => k_is)
    (case cNI => k_is)
    (case kNI => k_is)
    (case aSS => k_is)
    (case lSS => k_is)
    (case cSS => k_is)
    (case kSS => k_is)
    (case aRS => k_is)
    (case lRS => k_is)
    (case cRS => k_is)
    (case kRS => k_is)
    (case aCA => k_is)
    (case lCA => k_is)
    (case cCA => k_is)
    (case kCA => k_is)
    (case aNA => k_is)
    (case lNA => k_is)
    (case cNA => k_is)
    (case kNA => k_is)
    (case aIN => k_is)
    (case lIN => k_is)
    (case cIN => k_is)
    (case kIN => k_is)
    (case aSE => k_is)
    (case lSE => k_is)
    (case cSE => k_is)
    (case kSE => k_is)
    (case aBE => k_is)
    (case lBE => k_is)
    (case cBE => k_is)
    (case kBE => k_is)
    (case aRF => k_is)
    (case lRF => k_is)
    (case cRF => k_is)
    (case kRF => k_is)
    (case aQ => k_is)
    (case lQ => k_is)
    (case cQ => k_is)
    (case kQ => k_is)
    (case aCN => k_is)
    (case aRW => k_is)
    (case aST => k_is)
    (case aTX => k_is)
    (case aTM => k_is)
    (case aZE => k_is)
    (case eST => k_exc)
    (case pST => k_is)
    (case nST => k_is)
    (case sST => k_is)
    (case hST => k_is)
    (case fST => k_is)
    (case gST => k_is)
    (case tST => k_is)
    (case rST => k_is)
    (case xST => kts_exm)
    (case oVE => kit_is)
    (case oCN => kit_is)
    (case oRW => kit_is)
    (case oST => kit_is)
    (case oTX => kit_is)
    (case oTM => kit_is)
    (case wST => kts_exm)
    (case ylen => k_is)
    (case yrange => k_is)
    (case ylist => k_is)
    (case yint => k_is)
    (case ybool => k_is)
    (case yisinstance => k_is)
    (case ystr => k_is)
    (case yValueError => k_is)


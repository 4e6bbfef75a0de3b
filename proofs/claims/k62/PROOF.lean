import PyProof.Rows.All
import Wide.All
import OpenK.AllK
import Wide.FinOn
import Lean
import PyProof.EqAt
import PyProof.EqKinds
import PyProof.TupleCall
import KE.KTryMore
import KE.KIsAll
import PyProof.ExcBaseAll.ValueError
import PyProof.NsDelKeeps
import PyProof.ExcArgsOwn
import PyProof.Cells
import KE.RegKIsAll
import KE.RegKTryMore
import PySem.Challenge.RW_splithouse_k62_the_tree_of_cuts
-- CHANGE: your row's module here, as the last of these rows
set_option Elab.async false
set_option linter.all false
set_option maxRecDepth 100000
/-! THE HAND LAYER, for ints, bools, texts, own classes, LISTS and tuples (index, slices, in, append, pop ..), calls, loops. Paste it whole ahead of your own text; what your proof does not reach may be deleted. -/
namespace L2
open PySem PySem.Spec PyProof.Rows

/-- a key: an int or a str -/
abbrev Key := Sum Int Str
def keyIs : Key → Value → Bool
  | .inl k, v => Value.isInt k v
  | .inr x, v => Value.isStrOf x v
def keyH (w : World) : Key → Int
  | .inl k => hashInt k
  | .inr x => hashStr w x
theorem keyIs_shape : ∀ {k : Key} {v : Value}, keyIs k v = true → (∃ i t, k = Sum.inl i ∧ v = Value.int i t) ∨ (∃ x t, k = Sum.inr x ∧ v = Value.str x t)
  | .inl i, v, h => by
    obtain ⟨t, e⟩ := Value.isInt_shape (k := i) (v := v) h
    exact .inl ⟨i, t, rfl, e⟩
  | .inr x, v, h => by
    obtain ⟨t, e⟩ := Value.isStrOf_shape (x := x) (v := v) h
    exact .inr ⟨x, t, rfl, e⟩
theorem keyIs_int (i : Int) (t : Tok) : keyIs (.inl i) (.int i t) = true := by simp [keyIs, Value.isInt]
theorem keyIs_str (x : Str) (t : Tok) : keyIs (.inr x) (.str x t) = true := by simp [keyIs, Value.isStrOf]
theorem key_ll (a b : Int) : decide ((Sum.inl a : Key) = Sum.inl b) = (a == b) := by
  by_cases e : a = b
  · subst e; simp
  · have h : ¬ (Sum.inl a : Key) = Sum.inl b := fun q => e (Sum.inl.inj q)
    rw [decide_eq_false h]
    exact (beq_eq_false_iff_ne.mpr e).symm
theorem key_rr (a b : Str) : decide ((Sum.inr a : Key) = Sum.inr b) = decide (a = b) := by
  by_cases e : a = b
  · subst e; simp
  · have h : ¬ (Sum.inr a : Key) = Sum.inr b := fun q => e (Sum.inr.inj q)
    rw [decide_eq_false h, decide_eq_false e]
theorem key_lr (a : Int) (b : Str) : decide ((Sum.inl a : Key) = Sum.inr b) = false := decide_eq_false (fun q => nomatch q)
theorem key_rl (a : Str) (b : Int) : decide ((Sum.inr a : Key) = Sum.inl b) = false := decide_eq_false (fun q => nomatch q)

def mixKind (prog : Program) (w : World) : PySem.KeyKind prog w Key where
  is := keyIs
  hash := keyH w
  inj := fun v a b ha hb => by
    rcases keyIs_shape ha with ⟨i, t, rfl, rfl⟩ | ⟨x, t, rfl, rfl⟩
    · rcases keyIs_shape hb with ⟨j, u, rfl, e⟩ | ⟨y, u, rfl, e⟩
      · injection e with e1 _; rw [e1]
      · exact nomatch e
    · rcases keyIs_shape hb with ⟨j, u, rfl, e⟩ | ⟨y, u, rfl, e⟩
      · exact nomatch e
      · injection e with e1 _; rw [e1]
  byValue := fun k v h => by
    rcases keyIs_shape h with ⟨i, t, rfl, rfl⟩ | ⟨x, t, rfl, rfl⟩ <;> rfl
  pyHash := fun hv h => by
    rcases keyIs_shape hv with ⟨i, t, rfl, rfl⟩ | ⟨x, t, rfl, rfl⟩
    · exact wpAny_pyHash_int h
    · exact wpAny_pyHash_str h
  eqBool := fun hu hv h => by
    rcases keyIs_shape hu with ⟨i, t, rfl, rfl⟩ | ⟨x, t, rfl, rfl⟩
    · rcases keyIs_shape hv with ⟨j, u, rfl, rfl⟩ | ⟨y, u, rfl, rfl⟩
      · rw [key_ll] at h; exact wpAny_eqBool_int h
      · rw [key_lr] at h; exact SeqAt.EqAt.int_str i t y u _ _ _ _ h
    · rcases keyIs_shape hv with ⟨j, u, rfl, rfl⟩ | ⟨y, u, rfl, rfl⟩
      · rw [key_rl] at h; exact SeqAt.EqAt.str_int x t j u _ _ _ _ h
      · rw [key_rr] at h; exact wpAny_eqBool_str h
  «strs» := fun k x t v h => by
    rcases keyIs_shape h with ⟨i, u, rfl, e⟩ | ⟨y, u, rfl, e⟩
    · exact nomatch e
    · injection e with e1 _
      subst e1
      cases v <;> rfl

theorem mixKind_int (prog : Program) (w : World) (i : Int) (t : Tok) : (mixKind prog w).is (.inl i) (.int i t) = true := keyIs_int i t
theorem mixKind_str (prog : Program) (w : World) (x : Str) (t : Tok) : (mixKind prog w).is (.inr x) (.str x t) = true := keyIs_str x t
end L2

namespace L2
open PySem PySem.Spec PyProof.Rows

/-- a value, without the heap -/
inductive V where
  | non | bl (b : Bool) | int (i : Int) | str (x : Str) | byt (b : Array UInt8) | flt (b : UInt64) | ref (a : Addr) | ty (n : String)
  deriving DecidableEq

def RelV : V → Value → Prop
  | .non, u => u = Value.none
  | .bl b, u => u = Value.bool b
  | .int i, u => ∃ t, u = Value.int i t
  | .str x, u => ∃ t, u = Value.str x t
  | .byt b, u => ∃ t, u = Value.bytes b t
  | .flt b, u => ∃ t, u = Value.float b t
  | .ref a, u => u = Value.ref a
  | .ty n, u => u = Value.type n

abbrev Vals : List V → List Value → Prop := Paired RelV
theorem Vals.length {xs : List V} {us : List Value} (r : Vals xs us) : xs.length = us.length := Paired.length r
theorem Vals.get : ∀ {xs : List V} {us : List Value} {i : Nat} {x : V}, Vals xs us → xs[i]? = some x → ∃ u, us[i]? = some u ∧ RelV x u
  | _, _, _, _, .nil, e => by simp at e
  | _, _, 0, _, .cons r _, e => by simp at e; subst e; exact ⟨_, rfl, r⟩
  | _, _, i + 1, x, .cons _ t, e => by
    obtain ⟨u, h1, h2⟩ := Vals.get (i := i) (x := x) t (by simpa using e)
    exact ⟨u, by simpa using h1, h2⟩
theorem Vals.set {x : V} {u : Value} (r : RelV x u) : ∀ {xs : List V} {us : List Value} (i : Nat), Vals xs us → Vals (xs.set i x) (us.set i u)
  | _, _, _, .nil => .nil
  | _, _, 0, .cons _ t => .cons r t
  | _, _, i + 1, .cons q t => .cons q (Vals.set r i t)
theorem Vals.append : ∀ {xs ys : List V} {us ws : List Value}, Vals xs us → Vals ys ws → Vals (xs ++ ys) (us ++ ws)
  | _, _, _, _, .nil, s => s
  | _, _, _, _, .cons r t, s => .cons r (Vals.append t s)
theorem Vals.take : ∀ {xs : List V} {us : List Value} (n : Nat), Vals xs us → Vals (xs.take n) (us.take n)
  | _, _, 0, _ => .nil
  | _, _, _ + 1, .nil => .nil
  | _, _, n + 1, .cons r t => .cons r (Vals.take n t)
theorem Vals.drop : ∀ {xs : List V} {us : List Value} (n : Nat), Vals xs us → Vals (xs.drop n) (us.drop n)
  | _, _, 0, r => r
  | _, _, _ + 1, .nil => .nil
  | _, _, n + 1, .cons _ t => Vals.drop n t
def RelO : Option V → Option Value → Prop
  | some v, some u => RelV v u
  | none, none => True
  | _, _ => False
def KV {κ : Type} : List (κ × V) → List (κ × Value) → Prop := Paired fun (p : κ × V) (q : κ × Value) => p.1 = q.1 ∧ RelV p.2 q.2

/-- a key of a dict (00_mix): an int or a text -/
def kV : Key → V
  | .inl i => .int i
  | .inr x => .str x

/-- what stands at a tracked address -/
inductive HO where
  /-- a list -/
  | lst (xs : List V)
  /-- a tuple (never changes) -/
  | tup (xs : List V)
  /-- a dict whose keys are ints and texts; one whose keys are tuples of ints and texts (the empty one is both) -/
  | dK (kvs : List (Key × V)) | dT (kvs : List (List Key × V))
  /-- a set of ints: its members, its size -/
  | set (S : Int → Bool) (n : Nat)
  /-- an instance of the class at C, its dict at dx, its attributes -/
  | ins (C dx : Addr) (fs : List (Str × V))
  /-- the dict of the instance at x -/
  | own (x : Addr)
  /-- the dict of an exception -/
  | xd (fs : List (Str × V))
  /-- a bound method, f of x -/
  | met (f x : Addr)
  /-- a range object lo, lo + 1, .. below hi -/
  | rng (lo hi : Int)
  /-- a thing that is known to the object (the script; a dict while a loop walks it): read, never written while it is so -/
  | frz (o : Obj) (u : HO)
  /-- a code object's table -/
  | tbl (ps : Array Value)
  /-- any other thing, by what is true of its one object (a def of one's own: SetO a S n := HO.ext fun h => ..) -/
  | ext (φ : Heap → Prop)

abbrev Hp := Addr → Option HO
def upd (H : Hp) (a : Addr) (o : HO) : Hp := fun b => if b = a then some o else H b
theorem upd_same {H : Hp} {a : Addr} {o : HO} : upd H a o a = some o := by unfold upd; rw [if_pos rfl]
theorem upd_ne {H : Hp} {a b : Addr} {o : HO} (h : b ≠ a) : upd H a o b = H b := by unfold upd; rw [if_neg h]
/-- two objects of different content stand apart -/
theorem ne_of {H : Hp} {a b : Addr} {o u : HO} (h : H a = some o) (h' : H b = some u) (d : o ≠ u) : a ≠ b := by
  intro e; subst e; rw [h] at h'; exact d (Option.some.inj h')
theorem ne_of_none {H : Hp} {a b : Addr} {o : HO} (h : H a = some o) (h' : H b = none) : a ≠ b := by
  intro e; subst e; rw [h] at h'; cases h'

section
variable (P : Program) (w : World)
def ObjOk (H : Hp) (h : Heap) (a : Addr) : HO → Prop
  | .lst xs => xs.length ≤ sizeLine ∧ ∃ (its : List Value) (n : Nat), Vals xs its ∧ h.get? a = some { cls := .type "list", data := .seq its.toArray n }
  | .tup xs => xs.length ≤ sizeLine ∧ ∃ its : List Value, Vals xs its ∧ IsTup h a its.toArray
  | .dK kvs => kvs.length ≤ sizeLine ∧ (a == sysModules) = false ∧ ∃ vs, KV kvs vs ∧ h.DictOf (mixKind P w) a vs
  | .dT kvs => kvs.length ≤ sizeLine ∧ (a == sysModules) = false ∧ ∃ xs : List (List Key × Addr × Value),
      Paired (fun (p : List Key × V) (q : List Key × Addr × Value) => p.1 = q.1 ∧ H q.2.1 = some (.tup (p.1.map kV)) ∧ RelV p.2 q.2.2) kvs xs ∧
      ∃ o es ep, h.get? a = some o ∧ o.ExactDict ∧ o.data = .dict es ep ∧ es.toList = xs.map (entryOfKey (tupleKind (mixKind P w))) ∧ (xs.map (·.1)).Nodup
  | .set S n => h.SetOf (intKind P w) a S n
  | .ins C dx fs => H dx = some (.own a) ∧ fs.length ≤ 1000 ∧ dx ≠ a ∧ h.get? a = some (PySem.W.instObj C dx) ∧
      ∃ mA, h.Ns1 dx mA ∧ (∀ f, RelO (fs.lookup f) (mA f)) ∧ PySem.Within mA (fs.map (·.1))
  | .own _ => ∃ o, h.get? a = some o
  | .xd fs => ∃ mA, h.Ns1 a mA ∧ ∀ f, RelO (fs.lookup f) (mA f)
  | .rng lo hi => ∃ t u v, h.get? a = some { cls := .type "range", data := .fields #[.int lo t, .int hi u, .int 1 v] }
  | .frz o u => h.get? a = some o ∧ ObjOk H h a u
  | .tbl ps => h.get? a = some { cls := .none, data := .fields ps }
  | .met f x => h.get? a = some (PySem.W.methodObj (.ref f) (.ref x))
  | .ext φ => φ h ∧ (∃ o, h.get? a = some o) ∧ ∀ h1 h2 : Heap, φ h1 → (∀ o, h1.get? a = some o → h2.get? a = some o) → φ h2
/-- the abstract heap is held -/
def HOk (H : Hp) (h : Heap) : Prop := ∀ a o, H a = some o → ObjOk P w H h a o
end

section
variable {P : Program} {w : World} {H H' : Hp} {h h' : Heap} {a : Addr} {o : HO}
theorem ObjOk.lt (x : ObjOk P w H h a o) : a < h.objs.size := by
  cases o with
  | lst xs => obtain ⟨_, _, _, _, e⟩ := x; exact Heap.lt_size e
  | tup xs => obtain ⟨_, _, _, p⟩ := x; exact p.lt
  | dK kvs => obtain ⟨_, _, _, _, o, _, _, e, _⟩ := x; exact Heap.lt_size e
  | dT kvs => obtain ⟨_, _, _, _, o, _, _, e, _⟩ := x; exact Heap.lt_size e
  | set S n => obtain ⟨o, _, _, _, e, _⟩ := x; exact Heap.lt_size e
  | ins C dx fs => obtain ⟨_, _, _, e, _⟩ := x; exact Heap.lt_size e
  | own y => obtain ⟨_, e⟩ := x; exact Heap.lt_size e
  | xd fs => obtain ⟨_, ⟨_, _, _, e, _⟩, _⟩ := x; exact Heap.lt_size e
  | rng lo hi => obtain ⟨_, _, _, e⟩ := x; exact Heap.lt_size e
  | frz ob u => obtain ⟨e, _⟩ := x; exact Heap.lt_size e
  | tbl ps => exact Heap.lt_size (show h.get? a = some _ from x)
  | met f y => exact Heap.lt_size (show h.get? a = some _ from x)
  | ext φ => obtain ⟨_, ⟨_, e⟩, _⟩ := x; exact Heap.lt_size e
theorem Paired.mapP {α β : Type} {F G : α → β → Prop} : ∀ {l₁ : List α} {l₂ : List β}, Paired F l₁ l₂ → (∀ a b, F a b → G a b) → Paired G l₁ l₂
  | _, _, .nil, _ => .nil
  | _, _, .cons r t, f => .cons (f _ _ r) (Paired.mapP t f)
/-- what an object's description leans on: its own object, its own dict, the tuples -/
theorem ObjOk.stay (x : ObjOk P w H h a o) (k : ∀ b u, (b = a ∨ H b = some (.own a)) → h.get? b = some u → h'.get? b = some u)
    (ho : ∀ b, H b = some (.own a) → H' b = some (.own a)) (ht : ∀ b xs, H b = some (.tup xs) → H' b = some (.tup xs)) : ObjOk P w H' h' a o := by
  induction o with
  | lst xs => obtain ⟨z, its, n, r, e⟩ := x; exact ⟨z, its, n, r, k _ _ (.inl rfl) e⟩
  | tup xs => obtain ⟨z, its, r, ob, e, c⟩ := x; exact ⟨z, its, r, ob, k _ _ (.inl rfl) e, c⟩
  | dK kvs => obtain ⟨z, y, vs, r, ob, es, ep, e, c⟩ := x; exact ⟨z, y, vs, r, ob, es, ep, k _ _ (.inl rfl) e, c⟩
  | dT kvs =>
    obtain ⟨z, y, xs, r, ob, es, ep, e, c⟩ := x
    exact ⟨z, y, xs, Paired.mapP r fun p q z => ⟨z.1, ht _ _ z.2.1, z.2.2⟩, ob, es, ep, k _ _ (.inl rfl) e, c⟩
  | set S n => obtain ⟨ob, es, ep, t, e, c⟩ := x; exact ⟨ob, es, ep, t, k _ _ (.inl rfl) e, c⟩
  | ins C dx fs =>
    obtain ⟨d, z, ne, e, mA, ⟨od, es, ep, e2, c⟩, r⟩ := x
    exact ⟨ho _ d, z, ne, k _ _ (.inl rfl) e, mA, ⟨od, es, ep, k _ _ (.inr d) e2, c⟩, r⟩
  | own y => obtain ⟨ob, e⟩ := x; exact ⟨ob, k _ _ (.inl rfl) e⟩
  | xd fs => obtain ⟨mA, ⟨od, es, ep, e, c⟩, r⟩ := x; exact ⟨mA, ⟨od, es, ep, k _ _ (.inl rfl) e, c⟩, r⟩
  | rng lo hi => obtain ⟨t, u, v, e⟩ := x; exact ⟨t, u, v, k _ _ (.inl rfl) e⟩
  | frz ob u ih => obtain ⟨e, q⟩ := x; exact ⟨k _ _ (.inl rfl) e, ih q⟩
  | tbl ps =>
    have e : h.get? a = some { cls := .none, data := .fields ps } := x
    show h'.get? a = some { cls := .none, data := .fields ps }
    exact k a _ (.inl rfl) e
  | met f y =>
    have e : h.get? a = some (PySem.W.methodObj (.ref f) (.ref y)) := x
    show h'.get? a = some (PySem.W.methodObj (.ref f) (.ref y))
    exact k a _ (.inl rfl) e
  | ext φ => obtain ⟨p, ⟨o, e⟩, st⟩ := x; exact ⟨st _ _ p fun o q => k _ _ (.inl rfl) q, ⟨o, k _ _ (.inl rfl) e⟩, st⟩
theorem HOk.lt (x : HOk P w H h) (e : H a = some o) : a < h.objs.size := (x a o e).lt
theorem HOk.fresh (x : HOk P w H h) (e : h.objs.size ≤ a) : H a = none := by
  cases q : H a with
  | none => rfl
  | some u => exact absurd (Nat.lt_of_lt_of_le (x.lt q) e) (Nat.lt_irrefl _)
/-- every object of the heap is kept -/
theorem HOk.kept (x : HOk P w H h) (k : ∀ b u, h.get? b = some u → h'.get? b = some u) : HOk P w H h' := fun a o e =>
  (x a o e).stay (fun b u _ q => k b u q) (fun _ q => q) fun _ _ q => q
/-- a new object is laid and tracked -/
theorem HOk.laid (x : HOk P w H h) (k : ∀ b u, h.get? b = some u → h'.get? b = some u) (hp : h.objs.size ≤ a) (new : ObjOk P w (upd H a o) h' a o) : HOk P w (upd H a o) h' := fun b u e => by
  have hn := x.fresh hp
  by_cases hb : b = a
  · subst hb; rw [upd_same] at e; cases e; exact new
  · rw [upd_ne hb] at e
    exact (x b u e).stay (fun c v _ q => k c v q) (fun c q => by rw [upd_ne (ne_of_none q hn)]; exact q) fun c xs q => by rw [upd_ne (ne_of_none q hn)]; exact q
end

/-- what may be read as u: it is u, or a known u -/
def Rd (H : Hp) (a : Addr) (u : HO) : Prop := H a = some u ∨ ∃ o, H a = some (.frz o u)
theorem Rd.of {H : Hp} {a : Addr} {u : HO} (h : H a = some u) : Rd H a u := .inl h
theorem Rd.ok {P : Program} {w : World} {H : Hp} {h : Heap} {a : Addr} {u : HO} (r : Rd H a u) (x : HOk P w H h) : ObjOk P w H h a u := by
  rcases r with r | ⟨o, r⟩
  · exact x a u r
  · obtain ⟨_, q⟩ := x a _ r
    exact q
/-- what may be written -/
def Mut : Option HO → Prop
  | some (.lst _) => True
  | some (.dK _) => True
  | some (.dT _) => True
  | some (.set _ _) => True
  | some (.ins _ _ _) => True
  | some (.ext _) => True
  | _ => False
section
variable {P : Program} {w : World} {H : Hp} {h h' : Heap} {x e : Addr} {o' : HO}
/-- the object at e is changed: x itself, or the dict of the instance x -/
theorem HOk.write (ok : HOk P w H h) (mu : Mut (H x)) (he : e = x ∨ H e = some (.own x)) (k : ∀ b u, b ≠ e → h.get? b = some u → h'.get? b = some u) (heo : ∃ u, h'.get? e = some u)
    (new : ObjOk P w (upd H x o') h' x o') : HOk P w (upd H x o') h' := fun b u q => by
  have nown : ∀ c y, H c = some (.own y) → c ≠ x := fun c y r z => by subst z; rw [r] at mu; exact mu
  have ntup : ∀ c xs, H c = some (.tup xs) → c ≠ x := fun c xs r z => by subst z; rw [r] at mu; exact mu
  by_cases hb : b = x
  · subst hb; rw [upd_same] at q; cases q; exact new
  · rw [upd_ne hb] at q
    by_cases hbe : b = e
    · have q' : H b = some (.own x) := by
        rcases he with z | z
        · exact absurd (hbe.trans z) hb
        · rw [hbe]; exact z
      rw [q] at q'; cases q'
      obtain ⟨v, hv⟩ := heo
      exact ⟨v, by rw [hbe]; exact hv⟩
    · refine (ok b u q).stay (fun c v hc r => k c v ?_ r) (fun c r => by rw [upd_ne (nown c b r)]; exact r) fun c xs r => by rw [upd_ne (ntup c xs r)]; exact r
      rcases hc with rfl | hc
      · exact hbe
      · rintro rfl
        rcases he with z | z
        · exact nown c b hc z
        · rw [hc] at z; cases z; exact hb rfl
end

/-! ### kept unless tracked; of the frames at fs (the callers') the slots may change (an exception that passes writes there); of the records at ex (iterators) nothing is said -/
structure Un (fs ex : List Addr) (H H' : Hp) (h h' : Heap) : Prop where
  keep : ∀ b o, h.get? b = some o → H b = none → b ∉ fs → b ∉ ex → h'.get? b = some o
  slot : ∀ b o, h.get? b = some o → H b = none → b ∈ fs → b ∉ ex → ∃ sl, h'.get? b = some { o with slots := sl }
  free : ∀ b o, h.get? b = some o → H b = none → b ∉ ex → H' b = none
  there : ∀ b o, h.get? b = some o → b ∉ ex → ∃ o', h'.get? b = some o'
  tups : ∀ b xs, H b = some (.tup xs) → H' b = some (.tup xs)
  frzs : ∀ b o u, H b = some (.frz o u) → H' b = some (.frz o u)
  tbls : ∀ b ps, H b = some (.tbl ps) → ∃ more, H' b = some (.tbl (ps ++ more))
section
variable {fs fs' ex ex' : List Addr} {H H1 H2 : Hp} {h h1 h2 h' : Heap} {a x e : Addr} {o : HO}
theorem Un.any (u : Un fs ex H H1 h h1) {b : Addr} {ob : Obj} (q : h.get? b = some ob) (n : H b = none) (hx : b ∉ ex) : ∃ sl, h1.get? b = some { ob with slots := sl } := by
  by_cases hb : b ∈ fs
  · exact u.slot b ob q n hb hx
  · exact ⟨ob.slots, u.keep b ob q n hb hx⟩
theorem Un.trans (a : Un fs ex H H1 h h1) (b : Un fs ex H1 H2 h1 h2) : Un fs ex H H2 h h2 where
  keep := fun c ob q n hc hx => b.keep c ob (a.keep c ob q n hc hx) (a.free c ob q n hx) hc hx
  slot := fun c ob q n hc hx => by
    obtain ⟨sl, e1⟩ := a.slot c ob q n hc hx
    obtain ⟨sl', e2⟩ := b.slot c _ e1 (a.free c ob q n hx) hc hx
    exact ⟨sl', e2⟩
  free := fun c ob q n hx => by
    obtain ⟨o', e1⟩ := a.there c ob q hx
    exact b.free c o' e1 (a.free c ob q n hx) hx
  there := fun c ob q hx => by
    obtain ⟨o', e1⟩ := a.there c ob q hx
    exact b.there c o' e1 hx
  tups := fun c xs q => b.tups c xs (a.tups c xs q)
  frzs := fun c ob xs q => b.frzs c ob xs (a.frzs c ob xs q)
  tbls := fun c ps q => by
    obtain ⟨m1, e1⟩ := a.tbls c ps q
    obtain ⟨m2, e2⟩ := b.tbls c _ e1
    exact ⟨m1 ++ m2, by rw [e2, Array.append_assoc]⟩
theorem Un.kept (k : ∀ b u, h.get? b = some u → h'.get? b = some u) : Un fs ex H H h h' :=
  ⟨fun b ob q _ _ _ => k b ob q, fun b ob q _ _ _ => ⟨ob.slots, k b ob q⟩, fun _ _ _ n _ => n, fun b ob q _ => ⟨ob, k b ob q⟩, fun _ _ q => q, fun _ _ _ q => q, fun _ ps q => ⟨#[], by rw [q]; simp⟩⟩
theorem Un.refl : Un fs ex H H h h := Un.kept fun _ _ q => q
theorem Un.laid (k : ∀ b u, h.get? b = some u → h'.get? b = some u) (hp : h.objs.size ≤ a) (hn : H a = none) : Un fs ex H (upd H a o) h h' where
  keep := fun b u q _ _ _ => k b u q
  slot := fun b u q _ _ _ => ⟨u.slots, k b u q⟩
  free := fun b u q n _ => by rw [upd_ne (Nat.ne_of_lt (Nat.lt_of_lt_of_le (Heap.lt_size q) hp))]; exact n
  there := fun b u q _ => ⟨u, k b u q⟩
  tups := fun b xs q => by rw [upd_ne (ne_of_none q hn)]; exact q
  frzs := fun b u xs q => by rw [upd_ne (ne_of_none q hn)]; exact q
  tbls := fun b ps q => ⟨#[], by rw [upd_ne (ne_of_none q hn), q]; simp⟩
theorem Un.write (mu : Mut (H x)) (he : e = x ∨ H e = some (.own x)) (k : ∀ b u, b ≠ e → h.get? b = some u → h'.get? b = some u) (heo : ∃ u, h'.get? e = some u) : Un fs ex H (upd H x o) h h' := by
  have hx : ∀ b, H b = none → b ≠ x := fun b n z => by subst z; rw [n] at mu; exact mu
  have hb : ∀ b, H b = none → b ≠ e := fun b n z => by
    subst z
    rcases he with r | r
    · exact hx b n r
    · rw [n] at r; cases r
  have hm : ∀ b u, H b = some u → ¬ Mut (some u) → b ≠ x := fun b u q nm z => by subst z; rw [q] at mu; exact nm mu
  refine ⟨fun b u q n _ _ => k b u (hb b n) q, fun b u q n _ _ => ⟨u.slots, k b u (hb b n) q⟩, fun b u q n _ => by rw [upd_ne (hx b n)]; exact n, fun b u q _ => ?_,
    fun b xs q => by rw [upd_ne (hm b _ q fun z => z)]; exact q, fun b u xs q => by rw [upd_ne (hm b _ q fun z => z)]; exact q, fun b ps q => ⟨#[], by rw [upd_ne (hm b _ q fun z => z), q]; simp⟩⟩
  by_cases hbe : b = e
  · subst hbe; exact heo
  · exact ⟨u, k b u hbe q⟩
theorem Un.mono (u : Un fs ex H H1 h h1) (hs : ∀ b ∈ fs, b ∈ fs') (hx : ∀ b ∈ ex, b ∈ ex') : Un fs' ex' H H1 h h1 :=
  ⟨fun b ob q n hb he => u.keep b ob q n (fun z => hb (hs b z)) fun z => he (hx b z), fun _ _ q n _ he => u.any q n fun z => he (hx _ z), fun b ob q n he => u.free b ob q n fun z => he (hx b z), fun b ob q he => u.there b ob q fun z => he (hx b z), u.tups, u.frzs, u.tbls⟩
end

/-! ### the heap without what is tracked -/
def trk (h : Heap) (H : Hp) : List Addr := (List.range h.objs.size).filter fun a => (H a).isSome
def hidT (h : Heap) (H : Hp) : Heap := PySem.W.hideAll h (trk h H)
theorem hidT_size (h : Heap) (H : Hp) : (hidT h H).objs.size = h.objs.size := PySem.W.hideAll_size _ _
theorem hidT_get {h : Heap} {H : Hp} {b : Addr} {o : Obj} (e : h.get? b = some o) (n : H b = none) : (hidT h H).get? b = some o :=
  PySem.W.hideAll_get _ e fun hm => by
    have q : (H b).isSome = true := (List.mem_filter.mp hm).2
    rw [n] at q; simp at q
theorem of_hidT {h : Heap} {H : Hp} {b : Addr} {o : Obj} (e : (hidT h H).get? b = some o) : h.get? b = some o ∧ H b = none := by
  have e' : h.get? b = some o := PySem.W.of_hideAll (trk h H) e
  refine ⟨e', ?_⟩
  cases q : H b with
  | none => rfl
  | some x =>
    have hm : b ∈ trk h H := List.mem_filter.mpr ⟨List.mem_range.mpr (Heap.lt_size e'), by simp [q]⟩
    have z : (hidT h H).get? b = none := PySem.W.hideAll_none (trk h H) hm
    rw [z] at e; cases e

/-! ### OpenK's ledger, filled with every new object but one -/
def allNews (g h : Heap) (L : Addr) : List (Addr × Obj) := (List.range h.objs.size).filterMap fun a => if a = L ∨ (g.get? a).isSome = true then none else (h.get? a).map fun o => (a, o)
def rest (g h : Heap) (L d : Addr) : List (Addr × Obj) := (allNews g h L).filter fun p => decide (p.1 ≠ d)
end L2

namespace L2
open PySem PySem.Spec PyProof.Rows

/-- the module's facts, over the base: the heap at the law's entry without what is tracked there -/
structure Mod (K : PySem.W.Frag) (mg : Str → Option Value) (base : Heap) : Prop where
  kin : K.In base
  glob : base.Ns mainGlobals mg
  blt : ∃ mb, base.Ns builtinsNs mb ∧ ∀ x : Str, x ≠ "__name__" → mb x = bootBuiltins x
  nolimit : base.NoLimit

/-- the context: a def's body (or a comprehension's block) running. base: fixed through the whole law; s₀, H₀: the entry; outer: the frames whose slots others may change (a def's callers); stack: all frames that run;
   ex: iterators that were made ahead of the entry and are walked here (a comprehension's); fn: the names whose cells were made at the entry (a def: all; a comprehension's block: its own); calm: not within an except suite; pn: pins that every state bears; xe: what is wanted of an exception that leaves the code -/
structure Cx where
  prog : Program
  w : World
  K : PySem.W.Frag
  mg : Str → Option Value
  base : Heap
  A : Around
  N : List Str
  s₀ : Shared
  H₀ : Hp
  env : Env
  outer : List Env
  stack : List Env
  ex : List Addr
  fn : Str → Bool
  calm : Bool
  pn : List (Addr × Obj)
  xe : Value → Shared → Prop
/-- the callers' frames -/
def frs (l : List Env) : List Addr := l.filterMap (·.frame)
abbrev Cx.fs (X : Cx) : List Addr := frs X.outer

def Vis (sc : Scope) (x : Str) : Prop := sc.names.lookup x = some .local ∨ sc.names.lookup x = some .cell ∨ sc.names.lookup x = some .free
def Loc (sc : Scope) (x : Str) : Prop := sc.names.lookup x = some .local ∨ sc.names.lookup x = some .cell
def Look (env : Env) (h : Heap) (m : Str → Option Value) (x : Str) (u : Value) : Prop :=
  (env.kindOf x = some .local ∧ m x = some u) ∨ ((env.kindOf x = some .cell ∨ env.kindOf x = some .free) ∧ ∃ c, env.cells.lookup x = some c ∧ h.IsCell c (some u))

structure Cx.Ok (X : Cx) : Prop where
  mod : Mod X.K X.mg X.base
  kind : X.env.scope.kind = .function
  glob : X.env.globals = mainGlobals
  blt : X.env.builtins = builtinsNs
  above : X.s₀.heap.objs.size ≤ X.env.locals
  inj : ∀ x y c, X.env.cells.lookup x = some c → X.env.cells.lookup y = some c → x = y
  has : ∀ x, (X.env.kindOf x = some .cell ∨ X.env.kindOf x = some .free) → ∃ c, X.env.cells.lookup x = some c
  cab : ∀ x c, X.fn x = true → X.env.cells.lookup x = some c → X.s₀.heap.objs.size ≤ c
  hd : X.calm = true → X.A.handled = none
  frames : X.A.frames = some X.stack
  stk : X.stack = X.outer ∨ (X.stack = X.env :: X.outer ∧ X.env.frame = some X.env.locals)
  exf : ∀ b ∈ X.ex, b ≠ X.env.locals ∧ ∀ x c, X.env.cells.lookup x = some c → c ≠ b
  bs : ∀ b o, X.base.get? b = some o → X.s₀.heap.get? b = some o ∧ X.H₀ b = none
  bsz : X.base.objs.size ≤ X.s₀.heap.objs.size
  noex : ∀ b o, X.base.get? b = some o → b ∉ X.ex
  exfs : ∀ b ∈ X.ex, b ∉ X.fs
  funs : X.s₀.heap.FunFrames X.base X.outer
  frf : ∀ b ∈ X.fs, X.H₀ b = none

structure Inv (X : Cx) (pins : List (Addr × Obj)) (σ : List (Option V)) (H : Hp) (s : Shared) : Prop where
  ok : X.Ok
  os : s.os = X.s₀.os
  bare : AllBare s.gens
  base : Un X.fs X.ex X.H₀ H X.s₀.heap s.heap
  loc : ∃ m, s.heap.Ns X.env.locals m ∧ ∀ (i : Nat) (x : Str) (v : V), X.N[i]? = some x → σ[i]? = some (some v) → Vis X.env.scope x → ∃ u, RelV v u ∧ Look X.env s.heap m x u
  cell : ∀ x c, X.env.cells.lookup x = some c → ∃ v, s.heap.IsCell c v
  free : H X.env.locals = none
  freeC : ∀ x c, X.env.cells.lookup x = some c → H c = none
  pin : ∀ p ∈ X.pn ++ pins, s.heap.get? p.1 = some p.2 ∧ H p.1 = none ∧ p.1 ≠ X.env.locals ∧ p.1 ∉ X.fs ∧ ∀ v, p.2.data ≠ .cell v
  hok : HOk X.prog X.w H s.heap
  len : σ.length = X.N.length

section
variable {X : Cx} {pins : List (Addr × Obj)} {σ : List (Option V)} {H H' : Hp} {s : Shared} {h' : Heap}

theorem Cx.Ok.nofr (ok : X.Ok) {b : Addr} {o : Obj} (e : X.base.get? b = some o) : b ∉ X.fs := fun hb => by
  have := (ok.funs.mem hb).1
  rw [e] at this; cases this
theorem Inv.bs (I : Inv X pins σ H s) : ∀ b o, X.base.get? b = some o → s.heap.get? b = some o ∧ H b = none := fun b o e =>
  ⟨I.base.keep b o (I.ok.bs b o e).1 (I.ok.bs b o e).2 (I.ok.nofr e) (I.ok.noex b o e), I.base.free b o (I.ok.bs b o e).1 (I.ok.bs b o e).2 (I.ok.noex b o e)⟩
theorem Inv.bk (I : Inv X pins σ H s) : ∀ b o, X.base.get? b = some o → s.heap.get? b = some o := fun b o e => (I.bs b o e).1
theorem Inv.mod (I : Inv X pins σ H s) : Mod X.K X.mg X.base := I.ok.mod
theorem Inv.kIn (I : Inv X pins σ H s) : X.K.In s.heap := I.ok.mod.kin.keeps I.bk
theorem Inv.nolimit (I : Inv X pins σ H s) : s.heap.NoLimit := I.ok.mod.nolimit.keeps I.bk
/-- the frame over the base: for OpenK's rules (K.In X.base is I.mod.kin) -/
theorem Inv.fr (I : Inv X pins σ H s) : ∃ m, Fr X.base X.env.locals s.heap m :=
  let ⟨m, hn, _⟩ := I.loc
  ⟨m, hn, I.bk, Nat.le_trans I.ok.bsz I.ok.above⟩
theorem Inv.lt (I : Inv X pins σ H s) : X.env.locals < s.heap.objs.size := let ⟨_, hn, _⟩ := I.loc; hn.lt
theorem Inv.sz (I : Inv X pins σ H s) : X.s₀.heap.objs.size ≤ s.heap.objs.size := Nat.le_trans I.ok.above (Nat.le_of_lt I.lt)
theorem Inv.nofs (I : Inv X pins σ H s) {a : Addr} (h : s.heap.objs.size ≤ a) : a ∉ X.fs := fun hb => by
  obtain ⟨_, o, ho, _⟩ := I.ok.funs.mem hb
  exact absurd (Nat.lt_of_lt_of_le (Heap.lt_size ho) (Nat.le_trans I.sz h)) (Nat.lt_irrefl _)
theorem Inv.cne (I : Inv X pins σ H s) : ∀ x c, X.env.cells.lookup x = some c → c ≠ X.env.locals := fun x c e z => by
  obtain ⟨v, o, ho, hd⟩ := I.cell x c e
  obtain ⟨m, ⟨o', es, ep, ho', hd', _⟩, _⟩ := I.loc
  rw [z, ho'] at ho; cases ho; rw [hd'] at hd; cases hd
theorem Inv.funs (I : Inv X pins σ H s) : s.heap.FunFrames X.base X.outer := by
  have all : ∀ (l : List Env), (∀ b ∈ frs l, b ∈ X.fs) → X.s₀.heap.FunFrames X.base l → s.heap.FunFrames X.base l := by
    intro l
    induction l with
    | nil => intro _ _; trivial
    | cons env r ih =>
      intro hs hl
      obtain ⟨hk, ⟨L, o, hf, hn, ho, hd⟩, hr⟩ := hl
      have hL : L ∈ X.fs := hs L (by unfold frs; rw [List.filterMap_cons, hf]; exact List.mem_cons_self)
      obtain ⟨sl, e⟩ := I.base.slot L o ho (I.ok.frf L hL) hL fun z => I.ok.exfs L z hL
      exact ⟨hk, ⟨L, _, hf, hn, e, hd⟩, ih (fun b hb => hs b (by unfold frs; rw [List.filterMap_cons, hf]; exact List.mem_cons_of_mem _ hb)) hr⟩
  exact all X.outer (fun _ hb => hb) I.ok.funs

/-- the frames that run, for a call -/
theorem Inv.stack (I : Inv X pins σ H s) : s.heap.FunFrames X.base X.stack := by
  rcases I.ok.stk with e | ⟨e, hf⟩
  · rw [e]; exact I.funs
  · rw [e]
    obtain ⟨m, hn, _⟩ := I.loc
    refine .cons (by rw [I.ok.kind]; decide) hf hn ?_ I.funs
    exact Heap.get?_none_of_le (Nat.le_trans I.ok.bsz I.ok.above)
theorem Inv.stkSub (I : Inv X pins σ H s) : ∀ b ∈ frs X.stack, b ∈ X.env.locals :: X.fs := fun b hb => by
  rcases I.ok.stk with e | ⟨e, hf⟩
  · rw [e] at hb; exact List.mem_cons_of_mem _ hb
  · rw [e] at hb
    unfold frs at hb
    rw [List.filterMap_cons, hf] at hb
    exact hb
theorem Inv.stkFree (I : Inv X pins σ H s) : ∀ b ∈ frs X.stack, H b = none := fun b hb => by
  rcases List.mem_cons.mp (I.stkSub b hb) with e | hb
  · rw [e]; exact I.free
  · obtain ⟨_, o, ho, _⟩ := I.ok.funs.mem hb
    exact I.base.free b o ho (I.ok.frf b hb) fun z => I.ok.exfs b z hb

/-- THE STEP: the untracked objects but the frame and the records at ch are kept (the callers' frames up to slots), the frame's map is kept, the new abstract heap is held -/
theorem Inv.step {g' : Array GenState} {t' : Nat} {d' : Drawn} {ch : List Addr} (I : Inv X pins σ H s)
    (hch : ∀ b ∈ ch, (b ∈ X.ex ∨ X.s₀.heap.objs.size ≤ b) ∧ b ≠ X.env.locals ∧ (∀ x c, X.env.cells.lookup x = some c → c ≠ b) ∧ ∀ p ∈ X.pn ++ pins, p.1 ≠ b)
    (keep : ∀ b o, b ≠ X.env.locals → b ∉ X.fs → b ∉ ch → s.heap.get? b = some o → H b = none → h'.get? b = some o)
    (slot : ∀ b o, b ≠ X.env.locals → b ∈ X.fs → b ∉ ch → s.heap.get? b = some o → H b = none → ∃ sl, h'.get? b = some { o with slots := sl }) (free : ∀ b o, b ∉ ch → s.heap.get? b = some o → H b = none → H' b = none)
    (there : ∀ b o, b ∉ ch → s.heap.get? b = some o → ∃ o', h'.get? b = some o')
    (tups : ∀ b xs, H b = some (.tup xs) → H' b = some (.tup xs)) (frzs : ∀ b o u, H b = some (.frz o u) → H' b = some (.frz o u)) (tbls : ∀ b ps, H b = some (.tbl ps) → ∃ more, H' b = some (.tbl (ps ++ more)))
    (ns : ∀ m, s.heap.Ns X.env.locals m → h'.Ns X.env.locals m) (hok : HOk X.prog X.w H' h') (hg : AllBare g') :
    Inv X pins σ H' { s with heap := h', gens := g', drawn := d', toks := t' } := by
  have neL : ∀ b o, X.s₀.heap.get? b = some o → b ≠ X.env.locals := fun b o e => Nat.ne_of_lt (Nat.lt_of_lt_of_le (Heap.lt_size e) I.ok.above)
  have neC : ∀ b o, X.s₀.heap.get? b = some o → b ∉ X.ex → b ∉ ch := fun b o e hx hb => by
    rcases (hch b hb).1 with z | z
    · exact hx z
    · exact absurd (Nat.lt_of_lt_of_le (Heap.lt_size e) z) (Nat.lt_irrefl _)
  have cellK : ∀ x c, X.env.cells.lookup x = some c → ∀ v, s.heap.IsCell c v → h'.IsCell c v := fun x c e v ⟨o, ho, hd⟩ => by
    have nch : c ∉ ch := fun z => (hch c z).2.2.1 x c e rfl
    by_cases hc : c ∈ X.fs
    · obtain ⟨sl, q⟩ := slot c o (I.cne x c e) hc nch ho (I.freeC x c e)
      exact ⟨_, q, hd⟩
    · exact ⟨o, keep c o (I.cne x c e) hc nch ho (I.freeC x c e), hd⟩
  refine ⟨I.ok, I.os, hg, ⟨fun b o e n hb hx => ?_, fun b o e n hb hx => ?_, fun b o e n hx => ?_, fun b o e hx => ?_, fun b xs e => tups b xs (I.base.tups b xs e), fun b o xs e => frzs b o xs (I.base.frzs b o xs e), fun b ps e => ?_⟩, ?_, fun x c e => ?_, ?_, fun x c e => ?_, fun p hp => ?_, hok, I.len⟩
  · exact keep b o (neL b o e) hb (neC b o e hx) (I.base.keep b o e n hb hx) (I.base.free b o e n hx)
  · obtain ⟨sl, e1⟩ := I.base.slot b o e n hb hx
    obtain ⟨sl', e2⟩ := slot b _ (neL b o e) hb (neC b o e hx) e1 (I.base.free b o e n hx)
    exact ⟨sl', e2⟩
  · obtain ⟨o', e1⟩ := I.base.there b o e hx
    exact free b o' (neC b o e hx) e1 (I.base.free b o e n hx)
  · obtain ⟨o', e1⟩ := I.base.there b o e hx
    exact there b o' (neC b o e hx) e1
  · obtain ⟨m1, e1⟩ := I.base.tbls b ps e
    obtain ⟨m2, e2⟩ := tbls b _ e1
    exact ⟨m1 ++ m2, by rw [e2, Array.append_assoc]⟩
  · obtain ⟨m, hn, hl⟩ := I.loc
    refine ⟨m, ns m hn, fun i x v e1 e2 e3 => ?_⟩
    obtain ⟨u, r, l⟩ := hl i x v e1 e2 e3
    refine ⟨u, r, ?_⟩
    rcases l with l | ⟨k, c, e, z⟩
    · exact .inl l
    · exact .inr ⟨k, c, e, cellK x c e _ z⟩
  · obtain ⟨v, z⟩ := I.cell x c e
    exact ⟨v, cellK x c e v z⟩
  · obtain ⟨m, ⟨o, _, _, ho, _⟩, _⟩ := I.loc
    exact free _ o (fun z => (hch _ z).2.1 rfl) ho I.free
  · obtain ⟨v, o, ho, hd⟩ := I.cell x c e
    exact free c o (fun z => (hch c z).2.2.1 x c e rfl) ho (I.freeC x c e)
  · obtain ⟨e, n, ne, nf, d⟩ := I.pin p hp
    have nch : p.1 ∉ ch := fun z => (hch p.1 z).2.2.2 p hp rfl
    exact ⟨keep p.1 p.2 ne nf nch e n, free p.1 p.2 nch e n, ne, nf, d⟩
/-- .. where the frame's own object is kept too -/
theorem Inv.un {t' : Nat} (I : Inv X pins σ H s) (u : Un X.fs [] H H' s.heap h') (hok : HOk X.prog X.w H' h') : Inv X pins σ H' { s with heap := h', toks := t' } := by
  obtain ⟨m, ⟨o, es, ep, ho, r⟩, _⟩ := id I.loc
  obtain ⟨sl, hL⟩ := u.any ho I.free (by simp)
  exact I.step (g' := s.gens) (d' := s.drawn) (ch := []) (fun _ z => nomatch z) (fun b o _ hb _ e n => u.keep b o e n hb (by simp)) (fun b o _ hb _ e n => u.slot b o e n hb (by simp)) (fun b o _ e n => u.free b o e n (by simp)) (fun b o _ e => u.there b o e (by simp)) u.tups u.frzs u.tbls (fun m' hm => by
    obtain ⟨o', es', ep', ho', r'⟩ := hm
    rw [ho] at ho'; cases ho'
    exact ⟨_, es', ep', hL, r'⟩) hok I.bare
/-- behind a call (or a comprehension's block): the slots of this frame may have changed too, the records at ch may have turned -/
theorem Inv.call {g' : Array GenState} {t' : Nat} {d' : Drawn} {ch : List Addr} (I : Inv X pins σ H s) (u : Un (frs X.stack) ch H H' s.heap h') (hok : HOk X.prog X.w H' h') (hg : AllBare g')
    (hch : ∀ b ∈ ch, (b ∈ X.ex ∨ X.s₀.heap.objs.size ≤ b) ∧ b ≠ X.env.locals ∧ (∀ x c, X.env.cells.lookup x = some c → c ≠ b) ∧ ∀ p ∈ X.pn ++ pins, p.1 ≠ b) :
    Inv X pins σ H' { s with heap := h', gens := g', drawn := d', toks := t' } := by
  obtain ⟨m, ⟨o, es, ep, ho, r⟩, _⟩ := id I.loc
  obtain ⟨sl, hL⟩ := u.any ho I.free fun z => (hch _ z).2.1 rfl
  exact I.step (ch := ch) hch (fun b o hL hb hc e n => u.keep b o e n (fun z => (List.mem_cons.mp (I.stkSub b z)).elim hL hb) hc) (fun b o _ _ hc e n => u.any e n hc) (fun b o hc e n => u.free b o e n hc) (fun b o hc e => u.there b o e hc) u.tups u.frzs u.tbls (fun m' hm => by
    obtain ⟨o', es', ep', ho', r'⟩ := hm
    rw [ho] at ho'; cases ho'
    exact ⟨_, es', ep', hL, r'⟩) hok hg
/-- an untracked record of ours (an iterator) has turned -/
theorem Inv.turned {t' : Nat} {it : Addr} (I : Inv X pins σ H s) (k : ∀ b o, b ≠ it → s.heap.get? b = some o → h'.get? b = some o) (hn : H it = none) (hL : it ≠ X.env.locals)
    (h1 : it ∈ X.ex ∨ X.s₀.heap.objs.size ≤ it) (h2 : ∀ x c, X.env.cells.lookup x = some c → c ≠ it) (h3 : ∀ p ∈ X.pn ++ pins, p.1 ≠ it) : Inv X pins σ H { s with heap := h', toks := t' } := by
  have nit : ∀ b u, H b = some u → b ≠ it := fun b u e z => by rw [z, hn] at e; cases e
  refine I.step (g' := s.gens) (d' := s.drawn) (ch := [it]) (fun b hb => ?_) (fun b o _ _ hc e _ => k b o (fun z => hc (by simp [z])) e) (fun b o _ _ hc e _ => ⟨o.slots, k b o (fun z => hc (by simp [z])) e⟩) (fun _ _ _ _ n => n)
    (fun b o hc e => ⟨o, k b o (fun z => hc (by simp [z])) e⟩) (fun _ _ e => e) (fun _ _ _ e => e) (fun b ps e => ⟨#[], by rw [e]; simp⟩) (fun m hm => ?_) (fun b u e => ?_) I.bare
  · have e : b = it := by simpa using hb
    subst e
    exact ⟨h1, hL, h2, h3⟩
  · obtain ⟨o, es, ep, ho, r⟩ := hm
    exact ⟨o, es, ep, k _ o (Ne.symm hL) ho, r⟩
  · refine (I.hok b u e).stay (fun c v hc q => k c v ?_ q) (fun _ q => q) fun _ _ q => q
    rcases hc with z | z
    · rw [z]; exact nit b u e
    · exact nit c _ z
theorem Inv.tok (I : Inv X pins σ H s) (t : Nat) : Inv X pins σ H { s with toks := t } := I.un (h' := s.heap) (t' := t) Un.refl I.hok
/-- all objects kept -/
theorem Inv.kept {t' : Nat} (I : Inv X pins σ H s) (k : ∀ b u, s.heap.get? b = some u → h'.get? b = some u) : Inv X pins σ H { s with heap := h', toks := t' } := I.un (Un.kept k) (I.hok.kept k)
/-- a new object laid and tracked -/
theorem Inv.laid {a : Addr} {o : HO} {t' : Nat} (I : Inv X pins σ H s) (k : ∀ b u, s.heap.get? b = some u → h'.get? b = some u) (hp : s.heap.objs.size ≤ a) (new : ObjOk X.prog X.w (upd H a o) h' a o) :
    Inv X pins σ (upd H a o) { s with heap := h', toks := t' } := I.un (Un.laid k hp (I.hok.fresh hp)) (I.hok.laid k hp new)
/-- an object written -/
theorem Inv.write {x e : Addr} {o : HO} {t' : Nat} (I : Inv X pins σ H s) (mu : Mut (H x)) (he : e = x ∨ H e = some (.own x)) (k : ∀ b u, b ≠ e → s.heap.get? b = some u → h'.get? b = some u) (heo : ∃ u, h'.get? e = some u)
    (new : ObjOk X.prog X.w (upd H x o) h' x o) : Inv X pins σ (upd H x o) { s with heap := h', toks := t' } := I.un (Un.write mu he k heo) (I.hok.write mu he k heo new)
/-- forgetting slots, pins -/
theorem Inv.weak {σ' : List (Option V)} (I : Inv X pins σ H s) (hl : σ'.length = σ.length) (w : ∀ (i : Nat) v, σ'[i]? = some (some v) → σ[i]? = some (some v)) : Inv X pins σ' H s :=
  ⟨I.ok, I.os, I.bare, I.base, let ⟨m, hn, hl'⟩ := I.loc; ⟨m, hn, fun i x v e1 e2 e3 => hl' i x v e1 (w i v e2) e3⟩, I.cell, I.free, I.freeC, I.pin, I.hok, hl.trans I.len⟩
theorem Inv.pins_of {pins' : List (Addr × Obj)} (I : Inv X pins σ H s) (h : ∀ p ∈ pins', s.heap.get? p.1 = some p.2 ∧ H p.1 = none ∧ p.1 ≠ X.env.locals ∧ p.1 ∉ X.fs ∧ ∀ v, p.2.data ≠ .cell v) : Inv X pins' σ H s :=
  ⟨I.ok, I.os, I.bare, I.base, I.loc, I.cell, I.free, I.freeC, fun p hp => (List.mem_append.mp hp).elim (fun z => I.pin p (List.mem_append_left _ z)) (h p), I.hok, I.len⟩

theorem nodup_ix {N : List Str} (hN : N.Nodup) {i j : Nat} {x : Str} (a : N[i]? = some x) (b : N[j]? = some x) : i = j := by
  obtain ⟨h1, e1⟩ := List.getElem?_eq_some_iff.mp a
  obtain ⟨h2, e2⟩ := List.getElem?_eq_some_iff.mp b
  exact (List.getElem_inj hN).mp (e1.trans e2.symm)

/-- a name is stored; what changed -/
theorem store_ok2 {M : Model} {A : Around} {E : Value → Shared → Prop} {i : Nat} {x : Str} {v : V} {u : Value} {Q : Unit → Shared → Prop} (I : Inv X pins σ H s) (hN : X.N.Nodup) (hi : X.N[i]? = some x) (hx : Loc X.env.scope x) (r : RelV v u)
    (h : ∀ s', Inv X pins (σ.set i (some v)) H s' → (∃ a, Heap.SameBut a s.heap s'.heap ∧ (a = X.env.locals ∨ X.env.cells.lookup x = some a)) → Q () s') (hf : X.fn x = true ∨ X.env.scope.names.lookup x = some .local := by first | exact .inl rfl | exact .inr rfl | assumption) : wpAny M A (storeName X.env x u) Q E s := by
  obtain ⟨m, hn, hl⟩ := id I.loc
  have hcls : (X.env.scope.kind == .class || (X.env.scope.kind == .module && X.env.locals != X.env.globals)) = false := by rw [I.ok.kind]; rfl
  have hiσ : i < σ.length := by rw [I.len]; exact (List.getElem?_eq_some_iff.mp hi).1
  have cne := I.cne
  have tracked : ∀ {a : Addr} {h' : Heap}, (∃ o, s.heap.get? a = some o ∧ H a = none) → Heap.SameBut a s.heap h' → HOk X.prog X.w H h' := fun {a h'} ha hs b ob e => by
    obtain ⟨_, _, hfree⟩ := ha
    refine (I.hok b ob e).stay (fun c w' hc q => (hs.2 c ?_).trans q) (fun _ q => q) fun _ _ q => q
    rintro rfl
    rcases hc with rfl | hc
    · rw [hfree] at e; cases e
    · rw [hfree] at hc; cases hc
  rcases hx with hk | hk
  · refine wpAny_storeName_local hk hn (fun h' hn' hs => ?_) hcls
    obtain ⟨oL, _, _, hoL, _⟩ := id hn
    refine h _ ⟨I.ok, I.os, I.bare, ⟨fun b o e n hb hx => ?_, fun b o e n hb hx => ?_, I.base.free, fun b o e hx => ?_, I.base.tups, I.base.frzs, I.base.tbls⟩, ⟨_, hn', fun j y v' e1 e2 e3 => ?_⟩, fun y c e => ?_, I.free, I.freeC, fun p hp => ?_, tracked ⟨oL, hoL, I.free⟩ hs, by simpa using I.len⟩ ⟨_, hs, .inl rfl⟩
    · exact (hs.2 b (Nat.ne_of_lt (Nat.lt_of_lt_of_le (Heap.lt_size e) I.ok.above))).trans (I.base.keep b o e n hb hx)
    · obtain ⟨sl, e1⟩ := I.base.slot b o e n hb hx
      exact ⟨sl, (hs.2 b (Nat.ne_of_lt (Nat.lt_of_lt_of_le (Heap.lt_size e) I.ok.above))).trans e1⟩
    · obtain ⟨o', e1⟩ := I.base.there b o e hx
      exact ⟨o', (hs.2 b (Nat.ne_of_lt (Nat.lt_of_lt_of_le (Heap.lt_size e) I.ok.above))).trans e1⟩
    · by_cases hj : j = i
      · subst hj
        rw [hi] at e1; cases e1
        rw [List.getElem?_set_self hiσ] at e2
        cases e2
        exact ⟨u, r, .inl ⟨hk, by simp⟩⟩
      · rw [List.getElem?_set_ne (Ne.symm hj)] at e2
        obtain ⟨u', r', q⟩ := hl j y v' e1 e2 e3
        refine ⟨u', r', ?_⟩
        rcases q with ⟨k, e⟩ | ⟨k, c, e, z⟩
        · refine .inl ⟨k, ?_⟩
          have : y ≠ x := fun e => hj (nodup_ix hN e1 (e ▸ hi))
          simp [this, e]
        · exact .inr ⟨k, c, e, z.sameBut hs (cne y c e)⟩
    · obtain ⟨w', z⟩ := I.cell y c e
      exact ⟨w', z.sameBut hs (cne y c e)⟩
    · obtain ⟨e, n, ne, nf, d⟩ := I.pin p hp
      exact ⟨(hs.2 p.1 ne).trans e, n, ne, nf, d⟩
  · have hfn : X.fn x = true := by
      rcases hf with z | z
      · exact z
      · rw [z] at hk; cases hk
    obtain ⟨c, hc⟩ := I.ok.has x (.inl hk)
    obtain ⟨w', z⟩ := I.cell x c hc
    refine wpAny_storeName_cell I.ok.kind hk hc z (fun h' hc' hs => ?_)
    obtain ⟨oc, hoc, hocd⟩ := id z
    refine h { s with heap := h' } ⟨I.ok, I.os, I.bare, ⟨fun b o e n hb hx => ?_, fun b o e n hb hx => ?_, I.base.free, fun b o e hx => ?_, I.base.tups, I.base.frzs, I.base.tbls⟩, ⟨m, hn.sameBut hs (Ne.symm (cne x c hc)), fun j y v' e1 e2 e3 => ?_⟩, fun y c' e => ?_, I.free, I.freeC, fun p hp => ?_, tracked ⟨oc, hoc, I.freeC x c hc⟩ hs, by simpa using I.len⟩ ⟨c, hs, .inr hc⟩
    · exact (hs.2 b (Nat.ne_of_lt (Nat.lt_of_lt_of_le (Heap.lt_size e) (I.ok.cab x c hfn hc)))).trans (I.base.keep b o e n hb hx)
    · obtain ⟨sl, e1⟩ := I.base.slot b o e n hb hx
      exact ⟨sl, (hs.2 b (Nat.ne_of_lt (Nat.lt_of_lt_of_le (Heap.lt_size e) (I.ok.cab x c hfn hc)))).trans e1⟩
    · obtain ⟨o', e1⟩ := I.base.there b o e hx
      exact ⟨o', (hs.2 b (Nat.ne_of_lt (Nat.lt_of_lt_of_le (Heap.lt_size e) (I.ok.cab x c hfn hc)))).trans e1⟩
    · by_cases hj : j = i
      · subst hj
        rw [hi] at e1; cases e1
        rw [List.getElem?_set_self hiσ] at e2
        cases e2
        exact ⟨u, r, .inr ⟨.inl hk, c, hc, hc'⟩⟩
      · rw [List.getElem?_set_ne (Ne.symm hj)] at e2
        obtain ⟨u', r', q⟩ := hl j y v' e1 e2 e3
        refine ⟨u', r', ?_⟩
        rcases q with q | ⟨k, c', e, z'⟩
        · exact .inl q
        · refine .inr ⟨k, c', e, z'.sameBut hs ?_⟩
          rintro rfl
          exact hj (nodup_ix hN e1 (I.ok.inj _ _ _ e hc ▸ hi))
    · by_cases hcc : c' = c
      · subst hcc; exact ⟨_, hc'⟩
      · obtain ⟨w2, z2⟩ := I.cell y c' e
        exact ⟨w2, z2.sameBut hs hcc⟩
    · obtain ⟨e, n, ne, nf, d⟩ := I.pin p hp
      refine ⟨(hs.2 p.1 ?_).trans e, n, ne, nf, d⟩
      intro q
      rw [q, hoc] at e
      have q' : oc = p.2 := Option.some.inj e
      exact d w' (by rw [← q']; exact hocd)
theorem store_ok {M : Model} {A : Around} {E : Value → Shared → Prop} {i : Nat} {x : Str} {v : V} {u : Value} {Q : Unit → Shared → Prop} (I : Inv X pins σ H s) (hN : X.N.Nodup) (hi : X.N[i]? = some x) (hx : Loc X.env.scope x) (r : RelV v u)
    (h : ∀ s', Inv X pins (σ.set i (some v)) H s' → Q () s') (hf : X.fn x = true ∨ X.env.scope.names.lookup x = some .local := by first | exact .inl rfl | exact .inr rfl | assumption) : wpAny M A (storeName X.env x u) Q E s :=
  store_ok2 I hN hi hx r (fun s' I' _ => h s' I') hf
/-- behind a call or a block, the state as it is -/
theorem Inv.call' {s' : Shared} {ch : List Addr} (I : Inv X pins σ H s) (ho : s'.os = s.os) (u : Un (frs X.stack) ch H H' s.heap s'.heap) (hok : HOk X.prog X.w H' s'.heap) (hg : AllBare s'.gens)
    (hch : ∀ b ∈ ch, (b ∈ X.ex ∨ X.s₀.heap.objs.size ≤ b) ∧ b ≠ X.env.locals ∧ (∀ x c, X.env.cells.lookup x = some c → c ≠ b) ∧ ∀ p ∈ X.pn ++ pins, p.1 ≠ b) : Inv X pins σ H' s' := by
  obtain ⟨h', g', d', t', o'⟩ := s'
  have e : o' = s.os := ho
  subst e
  exact I.call (g' := g') (t' := t') (d' := d') u hok hg hch
end

/-! ### the judgements -/
/-- an exception: its class, its own dict's address (where it has one), the abstract heap behind it -/
abbrev XK := Value → Option Addr → Hp → Prop
abbrev St := List (Option V)
abbrev VK := V → Hp → Prop
/-- an expression's reading; a test's; an argument list's -/
abbrev TE := St → Hp → VK → Prop
abbrev TT := St → Hp → (Bool → Hp → Prop) → Prop
abbrev TA := St → Hp → (List V → Hp → Prop) → Prop
/-- what is wanted behind a statement -/
structure Ends where
  nx : St → Hp → Prop
  rt : VK
  bk : St → Hp → Prop := fun _ _ => False
  ct : St → Hp → Prop := fun _ _ => False
abbrev TS := Ends → St → Hp → Prop

def EP (X : Cx) (pins : List (Addr × Obj)) (σ : St) (Q : VK) (u : Value) (s' : Shared) : Prop := ∃ v H', Inv X pins σ H' s' ∧ RelV v u ∧ Q v H'
def TP (X : Cx) (pins : List (Addr × Obj)) (σ : St) (Q : Bool → Hp → Prop) (b : Bool) (s' : Shared) : Prop := ∃ H', Inv X pins σ H' s' ∧ Q b H'
def AP (X : Cx) (pins : List (Addr × Obj)) (σ : St) (Q : List V → Hp → Prop) (us : List Value) (s' : Shared) : Prop := ∃ vs H', Inv X pins σ H' s' ∧ Vals vs us ∧ Q vs H'
def SP (X : Cx) (pins : List (Addr × Obj)) (D : Ends) (f : Flow) (s' : Shared) : Prop :=
  match f with
  | .next => ∃ σ' H', Inv X pins σ' H' s' ∧ D.nx σ' H'
  | .brk => ∃ σ' H', Inv X pins σ' H' s' ∧ D.bk σ' H'
  | .cont => ∃ σ' H', Inv X pins σ' H' s' ∧ D.ct σ' H'
  | .ret u => ∃ v σ' H', Inv X pins σ' H' s' ∧ RelV v u ∧ D.rt v H'

def PE (X : Cx) (e : Expr) (t : TE) : Prop :=
  ∀ (pins : List (Addr × Obj)) (s : Shared) (σ : St) (H : Hp) (Q : VK), Inv X pins σ H s → t σ H Q → wpAny (model X.prog X.w) X.A (eval e X.env) (EP X pins σ Q) X.xe s
def PT (X : Cx) (e : Expr) (t : TT) : Prop :=
  ∀ (pins : List (Addr × Obj)) (s : Shared) (σ : St) (H : Hp) (Q : Bool → Hp → Prop), Inv X pins σ H s → t σ H Q → wpAny (model X.prog X.w) X.A (isTrue e X.env (eval e X.env)) (TP X pins σ Q) X.xe s
/-- a test whatever its 'whole' is (and, or) -/
def PW (X : Cx) (e : Expr) (t : TT) : Prop :=
  ∀ (whole : Sem Value) (pins : List (Addr × Obj)) (s : Shared) (σ : St) (H : Hp) (Q : Bool → Hp → Prop), Inv X pins σ H s → t σ H Q → wpAny (model X.prog X.w) X.A (isTrue e X.env whole) (TP X pins σ Q) X.xe s
theorem PW.pt {X : Cx} {e : Expr} {t : TT} (h : PW X e t) : PT X e t := h _
/-- an argument list (no star), from the left -/
def PA (X : Cx) (es : List Expr) (t : TA) : Prop :=
  ∀ (pos : Pos) (pins : List (Addr × Obj)) (s : Shared) (σ : St) (H : Hp) (Q : List V → Hp → Prop), Inv X pins σ H s → t σ H Q → wpAny (model X.prog X.w) X.A (spliced (backTo pos (starEach es X.env))) (AP X pins σ Q) X.xe s
def PS (X : Cx) (st : Stmt) (t : TS) : Prop :=
  ∀ (pins : List (Addr × Obj)) (s : Shared) (σ : St) (H : Hp) (D : Ends), Inv X pins σ H s → t D σ H → wpAny (model X.prog X.w) X.A (exec st X.env) (SP X pins D) X.xe s
def PSs (X : Cx) (st : List Stmt) (t : TS) : Prop :=
  ∀ (pins : List (Addr × Obj)) (s : Shared) (σ : St) (H : Hp) (D : Ends), Inv X pins σ H s → t D σ H → wpAny (model X.prog X.w) X.A (execs st X.env) (SP X pins D) X.xe s
/-- weaken the end -/
theorem thn {α : Type} {t : Sem α} {Q Q' : α → Shared → Prop} {M : Model} {A : Around} {E : Value → Shared → Prop} {s : Shared} (h : wpAny M A t Q E s) (hQ : ∀ a s, Q a s → Q' a s) : wpAny M A t Q' E s := wpAny_mono h hQ fun _ _ x => x
end L2

namespace L2
open PySem PySem.Spec PyProof.Rows
section
variable {X : Cx}

/-! ### names and constants -/
def tVar (i : Nat) : TE := fun σ H Q => ∃ v, σ[i]? = some (some v) ∧ Q v H
def tC (v : V) : TE := fun _ H Q => Q v H
theorem pe_var {i : Nat} {x : Str} {pos : Pos} (hN : X.N[i]? = some x) (hv : Vis X.env.scope x) (hd : (x == ("__debug__" : Str)) = false := by decide) (hcd : (x == ("__classdict__" : Str)) = false := by decide) : PE X (.Name x pos) (tVar i) := by
  intro pins s σ H Q I h
  obtain ⟨v, e, h⟩ := h
  obtain ⟨m, hn, hl⟩ := I.loc
  obtain ⟨u, r, l⟩ := hl i x v hN e hv
  have fin : EP X pins σ Q u s := ⟨v, H, I, r, h⟩
  rcases l with ⟨hk, hm⟩ | ⟨hk, c, hc, hcell⟩
  · exact wpAny_Name (wpAny_loadName_local I.ok.kind hk hn hm fin) hd
  · rcases hk with hk | hk
    · exact wpAny_Name (wpAny_loadName_cell I.ok.kind hk hc hcell fin) hd
    · exact wpAny_Name (wpAny_loadName_free I.ok.kind hk hc hcell fin hcd) hd
theorem pe_int {i j pos} : PE X (.Constant (.int i) j pos) (tC (.int i)) := fun _ _ _ H _ I h => wpAny_Constant_int ⟨.int i, H, I.tok _, ⟨_, rfl⟩, h⟩
theorem pe_bl {b j pos} : PE X (.Constant (.bool b) j pos) (tC (.bl b)) := fun _ _ _ H _ I h => Constant_bool ⟨.bl b, H, I, rfl, h⟩
theorem pe_non {j pos} : PE X (.Constant .none j pos) (tC .non) := fun _ _ _ H _ I h => Constant_none ⟨.non, H, I, rfl, h⟩
theorem pe_str {x j pos} : PE X (.Constant (.str x) j pos) (tC (.str x)) := fun _ _ _ H _ I h => Calls.Constant_str ⟨.str x, H, I.tok _, ⟨_, rfl⟩, h⟩

/-- a global name of the def -/
def Gl (X : Cx) (x : Str) : Prop := X.env.kindOf x = some .globalImplicit
theorem ld_glob {E : Value → Shared → Prop} {pins : List (Addr × Obj)} {s : Shared} {σ : St} {H : Hp} {x : Str} {u : Value} {pos : Pos} {Q : Value → Shared → Prop} (I : Inv X pins σ H s) (hg : Gl X x) (hm : X.mg x = some u) (h : Q u s)
    (hd : (x == ("__debug__" : Str)) = false := by decide) : wpAny (model X.prog X.w) X.A (eval (.Name x pos) X.env) Q E s :=
  Calls.Name_function_global I.ok.kind hg (Calls.loadGlobal_global (by rw [I.ok.glob]; exact I.mod.glob.keeps I.bk) hm h) hd
theorem ld_blt {E : Value → Shared → Prop} {pins : List (Addr × Obj)} {s : Shared} {σ : St} {H : Hp} {x : Str} {u : Value} {pos : Pos} {Q : Value → Shared → Prop} (I : Inv X pins σ H s) (hg : Gl X x) (hm : X.mg x = none) (hv : bootBuiltins x = some u) (h : Q u s)
    (hn : x ≠ "__name__" := by decide) (hd : (x == ("__debug__" : Str)) = false := by decide) : wpAny (model X.prog X.w) X.A (eval (.Name x pos) X.env) Q E s := by
  obtain ⟨mb, h1, h2⟩ := I.mod.blt
  exact Calls.Name_function_global I.ok.kind hg (Calls.loadGlobal_builtin (by rw [I.ok.glob]; exact I.mod.glob.keeps I.bk) hm (by rw [I.ok.blt]; exact h1.keeps I.bk) ((h2 x hn).trans hv) h) hd
/-- a module's constant, a class, a function, as a value -/
theorem pe_glob {x : Str} {v : V} {u : Value} {pos : Pos} (hg : Gl X x) (hm : X.mg x = some u) (r : RelV v u) (hd : (x == ("__debug__" : Str)) = false := by decide) : PE X (.Name x pos) (tC v) :=
  fun _ _ _ H _ I h => ld_glob I hg hm ⟨v, H, I, r, h⟩ hd
theorem pe_bltn {x : Str} {v : V} {u : Value} {pos : Pos} (hg : Gl X x) (hm : X.mg x = none) (hv : bootBuiltins x = some u) (r : RelV v u) (hn : x ≠ "__name__" := by decide) (hd : (x == ("__debug__" : Str)) = false := by decide) : PE X (.Name x pos) (tC v) :=
  fun _ _ _ H _ I h => ld_blt I hg hm hv ⟨v, H, I, r, h⟩ hn hd

/-! ### arithmetic -/
variable {a b : Expr} {ta tb : TE} {pos : Pos}
/-! ### comparisons -/
def PC (X : Cx) (op : CmpOp) (a b : Expr) (t : TE) : Prop :=
  ∀ (pins : List (Addr × Obj)) (s : Shared) (σ : St) (H : Hp) (Q : VK), Inv X pins σ H s → t σ H Q →
    wpAny (model X.prog X.w) X.A (eval a X.env) (fun v s₁ => wpAny (model X.prog X.w) X.A (eval b X.env) (fun u s₂ => wpAny (model X.prog X.w) X.A (compareOp op v u) (EP X pins σ Q) X.xe s₂) X.xe s₁) X.xe s
theorem nobehind (b : Expr) {op : CmpOp} (h : op ≠ .In) (h2 : op ≠ .NotIn) : behindInMarks op b = false := by
  have e1 : (op == CmpOp.In) = false := by cases op <;> first | rfl | exact absurd rfl h
  have e2 : (op == CmpOp.NotIn) = false := by cases op <;> first | rfl | exact absurd rfl h2
  cases b <;> simp [behindInMarks, e1, e2]
/-- a comparison as a value, as a test -/
def tB (t : TE) : TT := fun σ H Q => t σ H fun x H1 => ∃ c, x = .bl c ∧ Q c H1
theorem pt_cmp {op : CmpOp} {t : TE} (h : PC X op a b t) (h1 : behindInMarks op b = false := by first | exact nobehind _ (by decide) (by decide) | rfl) : PT X (.Compare a [op] [b] pos) (tB t) := by
  intro pins s σ H Q I hw
  refine wpAny_isTrue_Compare1 (thn (h pins s σ H _ I hw) fun v s1 h1 => thn h1 fun u s2 h2 => thn h2 fun c s3 ⟨x, H1, I1, r1, q1⟩ => ?_) h1
  obtain ⟨d, rfl, q⟩ := q1
  cases r1
  exact wpAny_truthy_bool ⟨H1, I1, q⟩
/-- an expression whose value is a bool, as a test -/
theorem pt_val {e : Expr} {t : TE} (h : PE X e t) (he : ∀ whole, isTrue e X.env whole = (do let v ← whole; standAt e.pos; holding [v] (truthy v)) := by intro _; rfl) : PT X e (tB t) := by
  intro pins s σ H Q I hw
  refine isTrue_plain (thn (h pins s σ H _ I hw) fun v s1 ⟨x, H1, I1, r1, q1⟩ => ?_) (he _)
  obtain ⟨d, rfl, q⟩ := q1
  cases r1
  exact wpAny_truthy_bool ⟨H1, I1, q⟩

/-! ### and, or, not -/
variable {tA tB' : TT} {rest : List Expr}
def tAnd (t u : TT) : TT := fun σ H Q => t σ H fun c H1 => if c = true then u σ H1 Q else Q false H1
def tOr (t u : TT) : TT := fun σ H Q => t σ H fun c H1 => if c = true then Q true H1 else u σ H1 Q
def tNot (t : TT) : TT := fun σ H Q => t σ H fun c H1 => Q (!c) H1
theorem pw_and1 (ha : PT X a tA) : PW X (.BoolOp .And [a] pos) tA := by
  intro wh pins s σ H Q I h
  refine isTrue_and (thn (ha pins s σ H Q I h) fun c s1 e => ?_)
  cases c with
  | true => exact isTrue_and_nil e
  | false => exact e
theorem pw_or1 (ha : PT X a tA) : PW X (.BoolOp .Or [a] pos) tA := by
  intro wh pins s σ H Q I h
  refine isTrue_or (thn (ha pins s σ H Q I h) fun c s1 e => ?_)
  cases c with
  | false => exact isTrue_or_nil e
  | true => exact e
theorem pw_and (ha : PT X a tA) (hb : PW X (.BoolOp .And (b :: rest) pos) tB') : PW X (.BoolOp .And (a :: b :: rest) pos) (tAnd tA tB') := by
  intro wh pins s σ H Q I h
  refine isTrue_and (thn (ha pins s σ H _ I h) fun c s1 ⟨H1, I1, q1⟩ => ?_)
  cases c with
  | true => exact hb wh pins s1 σ H1 Q I1 q1
  | false => exact ⟨H1, I1, q1⟩
theorem pw_or (ha : PT X a tA) (hb : PW X (.BoolOp .Or (b :: rest) pos) tB') : PW X (.BoolOp .Or (a :: b :: rest) pos) (tOr tA tB') := by
  intro wh pins s σ H Q I h
  refine isTrue_or (thn (ha pins s σ H _ I h) fun c s1 ⟨H1, I1, q1⟩ => ?_)
  cases c with
  | true => exact ⟨H1, I1, q1⟩
  | false => exact hb wh pins s1 σ H1 Q I1 q1
theorem pt_not (ha : PT X a tA) : PT X (.UnaryOp .Not a pos) (tNot tA) := by
  intro pins s σ H Q I h
  exact isTrue_not (ha pins s σ H (fun c H1 => Q (!c) H1) I h)
/-- .. as values (bools) -/
def tAndV (ta tb : TE) : TE := fun σ H Q => ta σ H fun x H1 => ∃ c, x = .bl c ∧ if c = true then tb σ H1 Q else Q (.bl false) H1
def tNotV (ta : TE) : TE := fun σ H Q => ta σ H fun x H1 => ∃ c, x = .bl c ∧ Q (.bl (!c)) H1
theorem pe_one {op} {t : TE} (h : PE X a t) : PE X (.BoolOp op [a] pos) t := fun pins s σ H Q I hw => BoolOp_one (h pins s σ H Q I hw)
theorem pe_and (ha : PE X a ta) (hb : PE X (.BoolOp .And (b :: rest) pos) tb) : PE X (.BoolOp .And (a :: b :: rest) pos) (tAndV ta tb) := by
  intro pins s σ H Q I h
  refine BoolOp_and (thn (ha pins s σ H _ I h) fun v s1 ⟨x, H1, I1, r1, q1⟩ => ?_)
  obtain ⟨c, rfl, q1⟩ := q1
  cases r1
  refine wpAny_truthy_bool ?_
  cases c with
  | true => exact hb pins s1 σ H1 Q I1 q1
  | false => exact ⟨.bl false, H1, I1, rfl, q1⟩
theorem pe_not (ha : PE X a ta) : PE X (.UnaryOp .Not a pos) (tNotV ta) := by
  intro pins s σ H Q I h
  refine UnaryOp_ (thn (ha pins s σ H _ I h) fun v s1 ⟨x, H1, I1, r1, q1⟩ => ?_)
  obtain ⟨c, rfl, q1⟩ := q1
  cases r1
  exact not_of (wpAny_truthy_bool ⟨.bl (!c), H1, I1, rfl, q1⟩)
end
end L2

namespace L2
open PySem PySem.Spec PyProof.Rows

/-! ### a list, a tuple that is read: tracked, frozen, or an object of the module -/
def SqL (K : PySem.W.Frag) (H : Hp) (a : Addr) (xs : List V) : Prop :=
  Rd H a (.lst xs) ∨
    ∃ (o : Obj) (its : Array Value) (n : Nat), K.lookup a = some o ∧ o.cls = .type "list" ∧ o.dict = none ∧ o.data = .seq its n ∧ its.size ≤ sizeLine ∧ Vals xs its.toList
def SqT (K : PySem.W.Frag) (H : Hp) (a : Addr) (xs : List V) : Prop :=
  Rd H a (.tup xs) ∨
    ∃ (o : Obj) (its : Array Value) (n : Nat), K.lookup a = some o ∧ o.cls = .type "tuple" ∧ o.data = .seq its n ∧ its.size ≤ sizeLine ∧ Vals xs its.toList
def absV : Value → Option V
  | .none => some .non
  | .bool b => some (.bl b)
  | .int i _ => some (.int i)
  | .str x _ => some (.str x)
  | .bytes b _ => some (.byt b)
  | .float b _ => some (.flt b)
  | .ref a => some (.ref a)
  | .type n => some (.ty n)
  | _ => none
theorem RelV.abs {x : V} {u : Value} (r : RelV x u) : absV u = some x := by
  cases x with
  | non => cases r; rfl
  | bl _ => cases r; rfl
  | int _ => obtain ⟨t, rfl⟩ := r; rfl
  | str _ => obtain ⟨t, rfl⟩ := r; rfl
  | byt _ => obtain ⟨t, rfl⟩ := r; rfl
  | flt _ => obtain ⟨t, rfl⟩ := r; rfl
  | ref _ => cases r; rfl
  | ty _ => cases r; rfl
theorem RelV.inj {x y : V} {u : Value} (r : RelV x u) (q : RelV y u) : x = y := Option.some.inj (r.abs.symm.trans q.abs)
theorem Vals.inj : ∀ {xs ys : List V} {us : List Value}, Vals xs us → Vals ys us → xs = ys
  | _, _, _, .nil, .nil => rfl
  | _, _, _, .cons r t, .cons r' t' => by rw [r.inj r', Vals.inj t t']
section
variable {X : Cx} {pins : List (Addr × Obj)} {σ : St} {H : Hp} {s : Shared} {a : Addr} {xs ys : List V}
theorem SqL.of {K : PySem.W.Frag} (h : H a = some (.lst xs)) : SqL K H a xs := .inl (.inl h)
theorem SqT.of {K : PySem.W.Frag} (h : H a = some (.tup xs)) : SqT K H a xs := .inl (.inl h)
theorem Inv.list (I : Inv X pins σ H s) (h : SqL X.K H a xs) : ∃ its : List Value, Vals xs its ∧ PlainL s.heap a its.toArray ∧ xs.length ≤ sizeLine := by
  rcases h with h | ⟨o, its, n, hk, hc, hd, hs, hz, r⟩
  · obtain ⟨z, its, n, r, e⟩ := h.ok I.hok
    exact ⟨its, r, ⟨_, n, e, rfl, rfl, rfl⟩, z⟩
  · refine ⟨its.toList, r, ⟨o, n, I.kIn a o hk, hc, hd, by simpa using hs⟩, ?_⟩
    have e := r.length
    simp only [Array.length_toList] at e
    omega
theorem Inv.tuple (I : Inv X pins σ H s) (h : SqT X.K H a xs) : ∃ its : List Value, Vals xs its ∧ IsTup s.heap a its.toArray ∧ xs.length ≤ sizeLine := by
  rcases h with h | ⟨o, its, n, hk, hc, hs, hz, r⟩
  · obtain ⟨z, its, r, p⟩ := h.ok I.hok
    exact ⟨its, r, p, z⟩
  · refine ⟨its.toList, r, ⟨o, I.kIn a o hk, hc, n, by simpa using hs⟩, ?_⟩
    have e := r.length
    simp only [Array.length_toList] at e
    omega
theorem Inv.list_inj (I : Inv X pins σ H s) (h : SqL X.K H a xs) (h' : SqL X.K H a ys) : xs = ys := by
  obtain ⟨its, r, ⟨o, n, e, _, _, d⟩, _⟩ := I.list h
  obtain ⟨its', r', ⟨o', n', e', _, _, d'⟩, _⟩ := I.list h'
  rw [e] at e'; cases e'
  rw [d] at d'
  injection d' with d1 _
  have : its = its' := by simpa using congrArg Array.toList d1
  subst this
  exact r.inj r'
end

/-! ### another wish about exceptions -/
abbrev Cx.wish (X : Cx) (E : Value → Shared → Prop) : Cx := { X with xe := E }
/-- no exception leaves -/
abbrev Cx.nox (X : Cx) : Cx := X.wish fun _ _ => False
theorem Cx.Ok.wish {X : Cx} (ok : X.Ok) (E : Value → Shared → Prop) : (X.wish E).Ok :=
  ⟨ok.mod, ok.kind, ok.glob, ok.blt, ok.above, ok.inj, ok.has, ok.cab, ok.hd, ok.frames, ok.stk, ok.exf, ok.bs, ok.bsz, ok.noex, ok.exfs, ok.funs, ok.frf⟩
theorem Cx.Ok.unwish {X : Cx} {E : Value → Shared → Prop} (ok : (X.wish E).Ok) : X.Ok :=
  ⟨ok.mod, ok.kind, ok.glob, ok.blt, ok.above, ok.inj, ok.has, ok.cab, ok.hd, ok.frames, ok.stk, ok.exf, ok.bs, ok.bsz, ok.noex, ok.exfs, ok.funs, ok.frf⟩
section
variable {X : Cx} {pins : List (Addr × Obj)} {σ : St} {H : Hp} {s : Shared} {E : Value → Shared → Prop}
theorem Inv.wish (I : Inv X pins σ H s) (E : Value → Shared → Prop) : Inv (X.wish E) pins σ H s := ⟨I.ok.wish E, I.os, I.bare, I.base, I.loc, I.cell, I.free, I.freeC, I.pin, I.hok, I.len⟩
theorem Inv.unwish (I : Inv (X.wish E) pins σ H s) : Inv X pins σ H s := ⟨I.ok.unwish, I.os, I.bare, I.base, I.loc, I.cell, I.free, I.freeC, I.pin, I.hok, I.len⟩
theorem SP.unwish {D : Ends} {f : Flow} {s' : Shared} (h : SP (X.wish E) pins D f s') : SP X pins D f s' := by
  cases f with
  | next => obtain ⟨σ', H', I, q⟩ := h; exact ⟨σ', H', I.unwish, q⟩
  | brk => obtain ⟨σ', H', I, q⟩ := h; exact ⟨σ', H', I.unwish, q⟩
  | cont => obtain ⟨σ', H', I, q⟩ := h; exact ⟨σ', H', I.unwish, q⟩
  | ret u => obtain ⟨v, σ', H', I, r, q⟩ := h; exact ⟨v, σ', H', I.unwish, r, q⟩
theorem PE.nox {e : Expr} {t : TE} (h : PE X.nox e t) : PE X e t := fun pins s σ H Q I hw =>
  wpAny_mono (h pins s σ H Q (I.wish _) hw) (fun _ _ ⟨v, H', I', r, q⟩ => ⟨v, H', I'.unwish, r, q⟩) fun _ _ z => False.elim z
theorem PT.nox {e : Expr} {t : TT} (h : PT X.nox e t) : PT X e t := fun pins s σ H Q I hw =>
  wpAny_mono (h pins s σ H Q (I.wish _) hw) (fun _ _ ⟨H', I', q⟩ => ⟨H', I'.unwish, q⟩) fun _ _ z => False.elim z
theorem PSs.nox {st : List Stmt} {t : TS} (h : PSs X.nox st t) : PSs X st t := fun pins s σ H D I hw =>
  wpAny_mono (h pins s σ H D (I.wish _) hw) (fun _ _ q => q.unwish) fun _ _ z => False.elim z
end

/-! ### blocks and small statements -/
section
variable {X : Cx} {st : Stmt} {rest : List Stmt} {t u : TS} {e : Expr} {te : TE} {pos : Pos}
def tNext : TS := fun D σ H => D.nx σ H
def tSeq (t u : TS) : TS := fun D σ H => t { D with nx := u D } σ H
theorem pss_nil : PSs X [] tNext := fun _ _ σ H _ I h => wpAny_execs_nil ⟨σ, H, I, h⟩
theorem pss_cons (h1 : PS X st t) (h2 : PSs X rest u) : PSs X (st :: rest) (tSeq t u) := by
  intro pins s σ H D I h
  refine wpAny_execs_cons (thn (h1 pins s σ H { D with nx := u D } I h) fun f s1 q => ?_)
  cases f with
  | next =>
    obtain ⟨σ', H', I', q⟩ := q
    exact h2 pins s1 σ' H' D I' q
  | ret v => exact q
  | brk => exact q
  | cont => exact q
theorem pss_one (h1 : PS X st t) : PSs X [st] t := by
  intro pins s σ H D I h
  refine wpAny_execs_cons (thn (h1 pins s σ H D I h) fun f s1 q => ?_)
  cases f with
  | next => exact wpAny_execs_nil q
  | ret v => exact q
  | brk => exact q
  | cont => exact q
/-- in a def's body nothing is shown -/
theorem Inv.quiet {pins : List (Addr × Obj)} {σ : St} {H : Hp} {s : Shared} (I : Inv X pins σ H s) : interactive X.env = false := by simp [interactive, I.ok.kind]
/-- an expression whose value is dropped -/
def tDrop (te : TE) : TS := fun D σ H => te σ H fun _ H1 => D.nx σ H1
theorem ps_expr (he : PE X e te) (hs : swapsWith e none pos.line X.env = pure false := by rfl) : PS X (.Expr e pos) (tDrop te) := by
  intro pins s σ H D I h
  exact wpAny_Expr_any (thn (he pins s σ H _ I h) fun v s1 ⟨x, H1, I1, r1, q1⟩ => ⟨σ, H1, I1, q1⟩) I.quiet hs
def tRet (te : TE) : TS := fun D σ H => te σ H D.rt
theorem ps_ret (he : PE X e te) : PS X (.Return (some e) pos) (tRet te) := by
  intro pins s σ H D I h
  exact wpAny_Return_some (thn (he pins s σ H _ I h) fun v s1 ⟨x, H1, I1, r1, q1⟩ => ⟨x, σ, H1, I1, r1, q1⟩)
def tIfS (c : TT) (t u : TS) : TS := fun D σ H => c σ H fun b H1 => if b = true then t D σ H1 else u D σ H1
theorem ps_if {c : Expr} {a b : List Stmt} {tc : TT} (hc : PT X c tc) (ha : PSs X a t) (hb : PSs X b u) : PS X (.If c a b pos) (tIfS tc t u) := by
  intro pins s σ H D I h
  refine wpAny_If (thn (hc pins s σ H _ I h) fun d s1 ⟨H1, I1, q1⟩ => ?_)
  cases d with
  | true => exact ha pins s1 σ H1 D I1 q1
  | false => exact hb pins s1 σ H1 D I1 q1
end

/-! ### targets -/
abbrev TG := V → St → Hp → (St → Hp → Prop) → Prop
abbrev TGs := List V → St → Hp → (St → Hp → Prop) → Prop
def PG (X : Cx) (target : Expr) (t : TG) : Prop :=
  ∀ (pins : List (Addr × Obj)) (s : Shared) (σ : St) (H : Hp) (v : V) (u : Value) (Q : St → Hp → Prop), Inv X pins σ H s → RelV v u → t v σ H Q →
    wpAny (model X.prog X.w) X.A (assign target X.env u) (fun _ s' => ∃ σ' H', Inv X pins σ' H' s' ∧ Q σ' H') X.xe s
/-- several targets, one after another -/
def PGs (X : Cx) (ts : List Expr) (t : TGs) : Prop :=
  ∀ (pins : List (Addr × Obj)) (s : Shared) (σ : St) (H : Hp) (vs : List V) (us : List Value) (Q : St → Hp → Prop), Inv X pins σ H s → Vals vs us → t vs σ H Q →
    wpAny (model X.prog X.w) X.A (assignInOrder ((assignEach ts X.env).map (·.2)) us) (fun _ s' => ∃ σ' H', Inv X pins σ' H' s' ∧ Q σ' H') X.xe s
/-- o[i] = v, by values -/
abbrev TSet := V → V → V → Hp → (Hp → Prop) → Prop
def PSet (X : Cx) (t : TSet) : Prop :=
  ∀ (pins : List (Addr × Obj)) (s : Shared) (σ : St) (H : Hp) (o i v : V) (ov iv u : Value) (Q : Hp → Prop), Inv X pins σ H s → RelV o ov → RelV i iv → RelV v u → t o i v H Q →
    wpAny (model X.prog X.w) X.A (setItem ov iv u) (fun _ s' => ∃ H', Inv X pins σ H' s' ∧ Q H') X.xe s
section
variable {X : Cx} {pos : Pos}
def gName (i : Nat) : TG := fun v σ H Q => Q (σ.set i (some v)) H
theorem pg_name {i : Nat} {x : Str} (hN : X.N.Nodup) (hi : X.N[i]? = some x) (hx : Loc X.env.scope x) (hf : X.fn x = true ∨ X.env.scope.names.lookup x = some .local := by first | exact .inl rfl | exact .inr rfl | assumption) : PG X (.Name x pos) (gName i) := by
  intro pins s σ H v u Q I r h
  exact wpAny_assign_Name (store_ok I hN hi hx r (fun s' I' => ⟨_, H, I', h⟩) hf)
def gNil : TGs := fun vs σ H Q => vs = [] ∧ Q σ H
def gCons (t : TG) (u : TGs) : TGs := fun vs σ H Q => ∃ v r, vs = v :: r ∧ t v σ H fun σ' H' => u r σ' H' Q
theorem pgs_nil : PGs X [] gNil := by
  intro pins s σ H vs us Q I r h
  obtain ⟨e, h⟩ := h
  subst e
  cases r
  exact assignInOrder_nil ⟨σ, H, I, h⟩
theorem pgs_cons {e : Expr} {es : List Expr} {t : TG} {u : TGs} (h1 : PG X e t) (h2 : PGs X es u)
    (hs : (assignEach (e :: es) X.env).map (·.2) = assign e X.env :: (assignEach es X.env).map (·.2) := by rfl) : PGs X (e :: es) (gCons t u) := by
  intro pins s σ H vs us Q I r h
  obtain ⟨v, vr, e1, h⟩ := h
  subst e1
  cases r with
  | cons r rr =>
    rw [hs]
    refine assignInOrder_cons (thn (h1 pins s σ H _ _ _ I r h) fun _ s1 ⟨σ1, H1, I1, q1⟩ => ?_)
    exact h2 pins s1 σ1 H1 _ _ Q I1 rr q1
/-- (a, b, ..) = a tuple of that length -/
def gTup (K : PySem.W.Frag) (n : Nat) (t : TGs) : TG := fun v σ H Q => ∃ a xs, v = .ref a ∧ SqT K H a xs ∧ xs.length = n ∧ t xs σ H Q
theorem pg_tup {es : List Expr} {k : Nat} {t : TGs} {n : Nat} (hc : X.calm = true) (h : PGs X es t)
    (hn : (assignEach es X.env).length = n := by rfl) (hst : (assignEach es X.env).findIdx? (·.1) = none := by rfl) : PG X (.Tuple es k pos) (gTup X.K n t) := by
  intro pins s σ H v u Q I r hw
  obtain ⟨a, xs, e1, hq, hl, hw⟩ := hw
  subst e1
  cases r
  obtain ⟨its, rv, ht, hz⟩ := I.tuple hq
  refine assign_Tuple_tuple (I.ok.hd hc) ht (by simp [hn, ← hl, rv.length]) hst fun h' hx => ?_
  have I1 : Inv X pins σ H { s with heap := h' } := I.kept (t' := s.toks) fun b o e => hx b o (Nat.ne_of_lt (Heap.lt_size e)) e
  exact h pins _ σ H xs _ Q I1 (by simpa using rv) hw
/-- o[i] = .. -/
def gSub (to ti : TE) (t : TSet) : TG := fun v σ H Q => to σ H fun o H1 => ti σ H1 fun i H2 => t o i v H2 fun H3 => Q σ H3
theorem pg_sub {o i : Expr} {to ti : TE} {t : TSet} (ho : PE X o to) (hi : PE X i ti) (hs : PSet X t)
    (ha : ∀ v, assign (.Subscript o i pos) X.env v = (do
      let ov ← holding [v] (eval o X.env)
      let iv ← holding [v, ov] (eval i X.env)
      standAt pos
      holding [v, ov, iv] (setItem ov iv v)
      release [v, ov, iv] []) := by intro _; rfl) : PG X (.Subscript o i pos) (gSub to ti t) := by
  intro pins s σ H v u Q I r h
  rw [ha]
  refine wpAny_bind (wpAny_holding (thn (ho pins s σ H _ I h) fun ov s1 ⟨x, H1, I1, r1, q1⟩ => ?_))
  refine wpAny_bind (wpAny_holding (thn (hi pins s1 σ H1 _ I1 q1) fun iv s2 ⟨y, H2, I2, r2, q2⟩ => ?_))
  refine wpAny_bind (wpAny_standAt (wpAny_bind (wpAny_holding (thn (hs pins s2 σ H2 x y v ov iv u _ I2 r1 r2 r q2) fun _ s3 ⟨H3, I3, q3⟩ => ?_))))
  exact wpAny_release ⟨σ, H3, I3, q3⟩
/-- target = value -/
def tAsg (te : TE) (g : TG) : TS := fun D σ H => te σ H fun x H1 => g x σ H1 D.nx
theorem ps_asg {tg e : Expr} {te : TE} {g : TG} (he : PE X e te) (hg : PG X tg g) (hs : swapsWithSole [tg] e pos.line X.env = pure false := by rfl) (hw : swappedStores [tg] e X.env = pure none := by rfl)
    (h1 : (assignEach [tg] X.env).map (·.2) = [assign tg X.env] := by rfl) : PS X (.Assign [tg] e pos) (tAsg te g) := by
  intro pins s σ H D I h
  refine wpAny_Assign_stores (thn (he pins s σ H _ I h) fun v s1 ⟨x, H1, I1, r1, q1⟩ => ?_) hs hw
  rw [h1]
  exact thn (hg pins s1 σ H1 x v _ I1 r1 q1) fun _ s2 q => q
/-- name = value -/
theorem ps_set {i : Nat} {x : Str} {e : Expr} {te : TE} {pos' : Pos} (hN : X.N.Nodup) (hi : X.N[i]? = some x) (hx : Loc X.env.scope x) (he : PE X e te) (hs : swapsWith e (some (.Name x pos')) pos.line X.env = pure false := by rfl) (hf : X.fn x = true ∨ X.env.scope.names.lookup x = some .local := by first | exact .inl rfl | exact .inr rfl | assumption) :
    PS X (.Assign [.Name x pos'] e pos) (tAsg te (gName i)) := by
  intro pins s σ H D I h
  refine wpAny_Assign_Name (thn (he pins s σ H _ I h) fun v s1 ⟨y, H1, I1, r1, q1⟩ => ?_) hs
  exact store_ok I1 hN hi hx r1 (fun s2 I2 => ⟨_, H1, I2, q1⟩) hf
end

/-! ### while -/
section
variable {X : Cx} {pos : Pos}
/-- the invariant W with its measure -/
def tWhile (c : TT) (tb : TS) : TS := fun D σ H => ∃ W : Nat → St → Hp → Prop, (∃ m, W m σ H) ∧ ∀ m σ H, W m σ H →
  c σ H fun b H1 => if b = true then ∃ N : St → Hp → Prop, (∀ σ' H', N σ' H' → ∃ m', m' < m ∧ W m' σ' H') ∧ tb { D with nx := N, ct := N, bk := D.nx } σ H1 else D.nx σ H1
theorem ps_while {c : Expr} {body : List Stmt} {tc : TT} {tb : TS} (hp : PassesOwn (model X.prog X.w) X.A X.env X.xe) (hc : PT X c tc) (hb : PSs X body tb) : PS X (.While c body [] pos) (tWhile tc tb) := by
  intro pins s σ H D I h
  obtain ⟨W, ⟨m0, w0⟩, turn⟩ := h
  refine wpAny_While (codeAny_whileLoop (fun n s' => ∃ σ' H', Inv X pins σ' H' s' ∧ W n σ' H') ?_ m0 ⟨σ, H, I, w0⟩)
  rintro n s1 ⟨σ1, H1, I1, w1⟩
  refine wpAny_passesOwn hp (thn (hc pins s1 σ1 H1 _ I1 (turn n σ1 H1 w1)) fun b s2 ⟨H2, I2, q2⟩ => ?_)
  cases b with
  | true =>
    obtain ⟨N, hN, q2⟩ := q2
    rw [if_pos rfl]
    refine wpAny_passesOwn hp (thn (hb pins s2 σ1 H2 _ I2 q2) fun f s3 q3 => ?_)
    cases f with
    | next =>
      obtain ⟨σ3, H3, I3, n3⟩ := q3
      obtain ⟨m', hm, w3⟩ := hN σ3 H3 n3
      exact ⟨m', hm, σ3, H3, I3, w3⟩
    | cont =>
      obtain ⟨σ3, H3, I3, n3⟩ := q3
      obtain ⟨m', hm, w3⟩ := hN σ3 H3 n3
      exact ⟨m', hm, σ3, H3, I3, w3⟩
    | brk => exact q3
    | ret v => exact q3
  | false =>
    rw [if_neg Bool.false_ne_true]
    exact wpAny_execs_nil ⟨σ1, H2, I2, q2⟩
end

/-! ### what a loop or a comprehension walks -/
/-- at turn i: it yields x (the heap may grow), or it stops -/
structure It where
  go : Nat → Hp → Prop
  yld : Nat → Hp → V → Hp → Prop
  stop : Nat → Hp → Prop
/-- the iterator's own objects may turn: they are not the frame's, not pinned, younger than the entry (or a comprehension's own) -/
def FpOk (X : Cx) (pins : List (Addr × Obj)) (H : Hp) (b : Addr) : Prop :=
  H b = none ∧ b ≠ X.env.locals ∧ b ∉ X.fs ∧ (b ∈ X.ex ∨ X.s₀.heap.objs.size ≤ b) ∧ (∀ x c, X.env.cells.lookup x = some c → c ≠ b) ∧ ∀ p ∈ X.pn ++ pins, p.1 ≠ b
theorem Inv.fpOk {X : Cx} {pins : List (Addr × Obj)} {σ : St} {H H' : Hp} {s : Shared} {b : Addr} (I : Inv X pins σ H s) (hb : s.heap.objs.size ≤ b) (hn : H' b = none) : FpOk X pins H' b := by
  refine ⟨hn, Nat.ne_of_gt (Nat.lt_of_lt_of_le I.lt hb), I.nofs hb, .inr (Nat.le_trans I.sz hb), fun x c e z => ?_, fun p hp z => ?_⟩
  · obtain ⟨v, q⟩ := I.cell x c e
    exact absurd (Nat.lt_of_lt_of_le q.lt (by rw [z]; exact hb)) (Nat.lt_irrefl _)
  · exact absurd (Nat.lt_of_lt_of_le (Heap.lt_size (I.pin p hp).1) (by rw [z]; exact hb)) (Nat.lt_irrefl _)
structure Turn (P : Program) (w : World) (K : PySem.W.Frag) (tg : Expr) (J : It) (fp : List Addr) (it : Addr) (tn : Nat → Heap → Prop) : Prop where
  mem : it ∈ fp
  obj : ∀ i h, tn i h → ∀ b ∈ fp, ∃ o, h.get? b = some o ∧ ∀ v, o.data ≠ .cell v
  keep : ∀ i h h', tn i h → (∀ b ∈ fp, ∀ o, h.get? b = some o → h'.get? b = some o) → tn i h'
  item : ∀ (X : Cx), X.prog = P → X.w = w → X.K = K → X.calm = true → ∀ (i : Nat) (pins : List (Addr × Obj)) (s : Shared) (σ : St) (H : Hp) (E : Value → Shared → Prop), Inv X pins σ H s → (∀ b ∈ fp, FpOk X pins H b) → tn i s.heap → J.go i H →
    wpAny (model P w) X.A (pyNext (.ref it)) (fun r s1 => ∃ u, r = some u ∧
      wpAny (model P w) X.A (letOwnedTupleGo tg (.ref it) u) (fun _ s2 => ∃ x H', Inv X pins σ H' s2 ∧ RelV x u ∧ J.yld i H x H' ∧ tn (i + 1) s2.heap ∧ ∀ b ∈ fp, H' b = none) E s1) E s
  done : ∀ (X : Cx), X.prog = P → X.w = w → X.K = K → X.calm = true → ∀ (i : Nat) (pins : List (Addr × Obj)) (s : Shared) (σ : St) (H : Hp) (E : Value → Shared → Prop), Inv X pins σ H s → (∀ b ∈ fp, FpOk X pins H b) → tn i s.heap → J.stop i H →
    wpAny (model P w) X.A (pyNext (.ref it)) (fun r s1 => r = none ∧ Inv X pins σ H s1) E s
  self : ∀ (A : Around) (i : Nat) (s : Shared) (Q : Value → Shared → Prop) (E : Value → Shared → Prop), tn i s.heap → Q (.ref it) s → wpAny (model P w) A (pyIter (.ref it)) Q E s
abbrev TI := St → Hp → (It → Hp → Prop) → Prop
/-- an iterator has come -/
def PIE (X : Cx) (pins : List (Addr × Obj)) (σ : St) (tg : Expr) (R : It → Hp → Prop) (itv : Value) (s2 : Shared) : Prop :=
  ∃ (it : Addr) (fp : List Addr) (tn : Nat → Heap → Prop) (J : It) (H' : Hp), itv = .ref it ∧ Inv X pins σ H' s2 ∧ Turn X.prog X.w X.K tg J fp it tn ∧ tn 0 s2.heap ∧ (∀ b ∈ fp, FpOk X pins H' b) ∧ R J H'
def PI (X : Cx) (tg iter : Expr) (wi : TI) : Prop :=
  ∀ (pins : List (Addr × Obj)) (s : Shared) (σ : St) (H : Hp) (R : It → Hp → Prop), Inv X pins σ H s → wi σ H R →
    wpAny (model X.prog X.w) X.A (eval iter X.env) (fun v s1 => wpAny (model X.prog X.w) X.A (pyIter v) (PIE X pins σ tg R) X.xe s1) X.xe s

/-- the step ahead of the store is nothing for an iterator that keeps no tuple -/
theorem go_of {M : Model} {A : Around} {E : Value → Shared → Prop} {s : Shared} {tg : Expr} {it : Addr} {u : Value} {o : Obj} {n : String} {vs : Array Value} {Q : Unit → Shared → Prop} (ho : s.heap.get? it = some o) (hc : o.cls = .type n) (hd : o.data = .fields vs)
    (hn : ["enumerate", "zip", "dict_itemiterator", "dict_reverseitemiterator", "odict_iterator", "itertools.zip_longest", "itertools.pairwise"].contains n = false) (hQ : Q () s) : wpAny M A (letOwnedTupleGo tg (.ref it) u) Q E s := by
  unfold letOwnedTupleGo
  cases tg <;> first
    | exact wpAny_pure hQ
    | (cases u <;> first
        | exact wpAny_pure hQ
        | (refine wpAny_bind (wpAny_load ho ?_)
           rw [hc, hd]
           show wpAny M A (if (["enumerate", "zip", "dict_itemiterator", "dict_reverseitemiterator", "odict_iterator", "itertools.zip_longest", "itertools.pairwise"].contains n && vs[0]? == some (rawInt _)) = true then _ else _) Q E s
           rw [if_neg (by intro h; rw [hn, Bool.false_and] at h; cases h)]
           exact wpAny_pure hQ))

/-- the list at a, as it stands at each turn (a loop may append to it) -/
def Itl (K : PySem.W.Frag) (a : Addr) : It :=
  ⟨fun i H => ∃ xs x, SqL K H a xs ∧ xs[i]? = some x, fun i H x H' => H' = H ∧ ∀ xs, SqL K H a xs → xs[i]? = some x, fun i H => ∃ xs, SqL K H a xs ∧ xs.length ≤ i⟩
/-- lo, lo + 1, .. (n of them) -/
def Itr (lo : Int) (n : Nat) : It := ⟨fun i _ => i < n, fun i H x H' => H' = H ∧ x = .int (lo + i), fun i _ => n ≤ i⟩
theorem turn_list {P : Program} {w : World} {K : PySem.W.Frag} {tg : Expr} (a it : Addr) : Turn P w K tg (Itl K a) [it] it (fun i h => h.IsListIter it a i) where
  mem := by simp
  obj := fun i h st b hb => by
    have e : b = it := by simpa using hb
    subst e
    obtain ⟨o, e, c, d⟩ := st
    exact ⟨o, e, fun v z => by rw [d] at z; cases z⟩
  keep := fun i h h' st k => st.at fun o e => k it (by simp) o e
  item := by
    intro X hP hw hK hc i pins s σ H E I hf st hg
    subst hP hw hK
    obtain ⟨xs, x, hq, hx⟩ := hg
    obtain ⟨its, rv, p, hz⟩ := I.list hq
    obtain ⟨u, hu, ru⟩ := rv.get hx
    obtain ⟨f0, f1, f2, f3, f4, f5⟩ := hf it (by simp)
    refine wpAny_pyNext_list_item st p.isList (x := u) (by simpa using hu) fun h' st' sb => ?_
    have I1 : Inv X pins σ H { s with heap := h' } := I.turned (t' := s.toks) (fun b o hb e => (sb.2 b hb).trans e) f0 f1 f3 f4 f5
    obtain ⟨o, e, c, d⟩ := id st'
    exact ⟨u, rfl, go_of (s := { s with heap := h' }) e c d (by decide) ⟨x, H, I1, ru, ⟨rfl, fun ys hy => by rw [I.list_inj hy hq]; exact hx⟩, st', fun b hb => (hf b hb).1⟩⟩
  done := by
    intro X hP hw hK hc i pins s σ H E I hf st hg
    subst hP hw hK
    obtain ⟨xs, hq, hx⟩ := hg
    obtain ⟨its, rv, p, hz⟩ := I.list hq
    obtain ⟨f0, f1, f2, f3, f4, f5⟩ := hf it (by simp)
    have hl := rv.length
    exact wpAny_pyNext_list_end (I.ok.hd hc) st p.isList (by simp; omega) fun h' eb => ⟨rfl, I.turned (t' := s.toks) (fun b o hb e => eb b o hb e) f0 f1 f3 f4 f5⟩
  self := fun _ _ _ _ _ st h => wpAny_pyIter_listiter st h
theorem turn_range {P : Program} {w : World} {K : PySem.W.Frag} {tg : Expr} (it : Addr) (lo : Int) (n : Nat) : Turn P w K tg (Itr lo n) [it] it (fun i h => IsRangeIter h it (lo + (i : Nat) * 1) ((n : Int) - (i : Nat)) 1) where
  mem := by simp
  obj := fun i h st b hb => by
    have e : b = it := by simpa using hb
    subst e
    exact ⟨_, st, fun v z => by
      have z' : Data.fields _ = Data.cell v := z
      cases z'⟩
  keep := fun i h h' st k => k it (by simp) _ st
  item := by
    intro X hP hw hK hc i pins s σ H E I hf st hg
    subst hP hw hK
    obtain ⟨f0, f1, f2, f3, f4, f5⟩ := hf it (by simp)
    have W := Walks.range (prog := X.prog) (w := X.w) (I.ok.hd hc) it lo 1 n
    refine W.item i s _ _ hg st fun v h' tk hv st' kk => ?_
    obtain ⟨t, rfl⟩ := hv
    have I1 : Inv X pins σ H { s with heap := h', toks := tk } := I.turned (fun b o hb e => kk b o (by simpa using hb) e) f0 f1 f3 f4 f5
    refine ⟨_, rfl, go_of (s := { s with heap := h', toks := tk }) (n := "range_iterator") st' rfl rfl (by decide) ⟨.int (lo + i), H, I1, ⟨t, ?_⟩, ⟨rfl, rfl⟩, st', fun b hb => (hf b hb).1⟩⟩
    rw [Int.mul_one]
  done := by
    intro X hP hw hK hc i pins s σ H E I hf st hg
    subst hP hw hK
    obtain ⟨f0, f1, f2, f3, f4, f5⟩ := hf it (by simp)
    exact wpAny_pyNext_range_end (I.ok.hd hc) st (by have : n ≤ i := hg; omega) fun h' eb => ⟨rfl, I.turned (t' := s.toks) (fun b o hb e => eb b o hb e) f0 f1 f3 f4 f5⟩
  self := fun _ _ _ _ _ st h => wpAny_pyIter_rangeiter st h
end L2

namespace L2
open PySem PySem.Spec PyProof.Rows
section
variable {X : Cx} {tg : Expr}
def iList (K : PySem.W.Frag) (tl : TE) : TI := fun σ H R => tl σ H fun x H1 => ∃ a, x = .ref a ∧ (∃ xs, SqL K H1 a xs) ∧ R (Itl K a) H1
theorem pi_list {l : Expr} {tl : TE} (hl : PE X l tl) : PI X tg l (iList X.K tl) := by
  intro pins s σ H R I h
  refine thn (hl pins s σ H _ I h) fun v s1 ⟨x, H1, I1, r1, q1⟩ => ?_
  obtain ⟨a, e, ⟨xs, hq⟩, q⟩ := q1
  subst e
  cases r1
  obtain ⟨its, rv, p, hz⟩ := I1.list hq
  refine wpAny_pyIter_list p.isList ?_
  refine ⟨s1.heap.objs.size, [s1.heap.objs.size], _, _, H1, rfl, I1.kept (t' := s1.toks) fun b o e => Heap.get?_push_of_some _ e, turn_list a _, ⟨_, Heap.get?_push_size _ rfl, rfl, rfl⟩, fun b hb => ?_, q⟩
  have e : b = s1.heap.objs.size := by simpa using hb
  subst e
  exact I1.fpOk (Nat.le_refl _) (I1.hok.fresh (Nat.le_refl _))
/-- a range object just made, walked -/
theorem range_it {pins : List (Addr × Obj)} {σ : St} {H : Hp} {s : Shared} {R : It → Hp → Prop} {E : Value → Shared → Prop} {lo hi : Int} {t u v : Tok} {tk : Nat} (I : Inv X pins σ H s) (h1 : -(2 ^ 62) ≤ lo) (h2 : lo < 2 ^ 62) (h3 : -(2 ^ 62) ≤ hi) (h4 : hi < 2 ^ 62)
    (q : R (Itr lo (hi - lo).toNat) H) : wpAny (model X.prog X.w) X.A (pyIter (.ref s.heap.objs.size)) (PIE X pins σ tg R) E { s with heap := s.heap.push { cls := .type "range", data := .fields #[.int lo t, .int hi u, .int 1 v] }, toks := tk } := by
  refine wpAny_pyIter_range (IsRange.new ..) (small_one h1 h2 h3 h4) ?_
  have I1 : Inv X pins σ H { s with heap := s.heap.push { cls := .type "range", data := .fields #[.int lo t, .int hi u, .int 1 v] }, toks := tk } := I.kept fun b o e => Heap.get?_push_of_some _ e
  refine ⟨(s.heap.push { cls := .type "range", data := .fields #[.int lo t, .int hi u, .int 1 v] }).objs.size, [(s.heap.push { cls := .type "range", data := .fields #[.int lo t, .int hi u, .int 1 v] }).objs.size], _, _, H, rfl,
    I1.kept (t' := tk) fun b o e => Heap.get?_push_of_some _ e, turn_range _ lo (hi - lo).toNat, ?_, fun b hb => ?_, q⟩
  · have e1 : lo + ((0 : Nat) : Int) * 1 = lo := by simp
    have e2 : (((hi - lo).toNat : Nat) : Int) - ((0 : Nat) : Int) = Builtin.Range.rangeSize lo hi 1 := by rw [rangeSize_one]; split <;> omega
    show IsRangeIter _ _ (lo + ((0 : Nat) : Int) * 1) ((((hi - lo).toNat : Nat) : Int) - ((0 : Nat) : Int)) 1
    rw [e1, e2]
    exact Heap.get?_push_size _ rfl
  · have e : b = (s.heap.push { cls := .type "range", data := .fields #[.int lo t, .int hi u, .int 1 v] }).objs.size := by simpa using hb
    subst e
    exact I1.fpOk (Nat.le_refl _) (I1.hok.fresh (Nat.le_refl _))
def iRng1 (ta : TA) : TI := fun σ H R => ta σ H fun vs H1 => ∃ j : Int, vs = [.int j] ∧ -(2 ^ 62) ≤ j ∧ j < 2 ^ 62 ∧ R (Itr 0 j.toNat) H1
theorem pi_range1 {a : Expr} {ta : TA} {p pos : Pos} (hg : Gl X "range") (hm : X.mg "range" = none) (ha : PA X [a] ta) (hs : starEach [a] X.env = [(false, eval a X.env)] := by rfl) : PI X tg (.Call (.Name "range" p) [a] [] pos) (iRng1 ta) := by
  intro pins s σ H R I h
  refine Call_ (ld_blt I hg hm boot_range (PyProof.Rows.callWith_type1 (thn (ha pos pins s σ H _ I h) fun us s1 ⟨vs, H1, I1, r1, q1⟩ => ?_) hs rfl))
  obtain ⟨j, e, q1, q2, q⟩ := q1
  subst e
  cases r1 with
  | cons r rr =>
    cases rr
    obtain ⟨t, rfl⟩ := r
    exact call_range_1 (range_it I1 (by omega) (by omega) q1 q2 (by simpa using q))
/-! ### for -/
/-- W: the invariant by the turn and a measure; N: what the body is to reach -/
def tFor (wi : TI) (g : TG) (tb : TS) : TS := fun D σ H => wi σ H fun J H1 => ∃ W : Nat → Nat → St → Hp → Prop, (∃ m, W 0 m σ H1) ∧ ∀ i m σ H, W i m σ H →
  (J.stop i H ∧ D.nx σ H) ∨ (J.go i H ∧ ∃ N : St → Hp → Prop, (∀ σ' H', N σ' H' → ∃ m', m' < m ∧ W (i + 1) m' σ' H') ∧ ∀ x H', J.yld i H x H' → g x σ H' fun σ2 H2 => tb { D with nx := N, ct := N, bk := D.nx } σ2 H2)
/-- the records at fp as they stand -/
def pinsAt (fp : List Addr) (h : Heap) : List (Addr × Obj) := fp.filterMap fun b => (h.get? b).map fun o => (b, o)
theorem mem_pinsAt {fp : List Addr} {h : Heap} {b : Addr} {o : Obj} (hb : b ∈ fp) (e : h.get? b = some o) : (b, o) ∈ pinsAt fp h := List.mem_filterMap.mpr ⟨b, hb, by rw [e]; rfl⟩
theorem of_pinsAt {fp : List Addr} {h : Heap} {p : Addr × Obj} (hp : p ∈ pinsAt fp h) : p.1 ∈ fp ∧ h.get? p.1 = some p.2 := by
  obtain ⟨b, hb, e⟩ := List.mem_filterMap.mp hp
  cases q : h.get? b with
  | none => rw [q] at e; cases e
  | some o =>
    rw [q] at e
    have e' : (b, o) = p := Option.some.inj e
    subst e'
    exact ⟨hb, q⟩
theorem Inv.pinned {pins : List (Addr × Obj)} {σ : St} {H : Hp} {s : Shared} {fp : List Addr} (I : Inv X pins σ H s) (hf : ∀ b ∈ fp, FpOk X pins H b) (ho : ∀ b ∈ fp, ∃ o, s.heap.get? b = some o ∧ ∀ v, o.data ≠ .cell v) : Inv X (pins ++ pinsAt fp s.heap) σ H s :=
  I.pins_of fun p hp => (List.mem_append.mp hp).elim (fun z => I.pin p (List.mem_append_right _ z)) fun z => by
    obtain ⟨hb, e⟩ := of_pinsAt z
    obtain ⟨f0, f1, f2, _⟩ := hf p.1 hb
    obtain ⟨o, e', d⟩ := ho p.1 hb
    rw [e] at e'; cases e'
    exact ⟨e, f0, f1, f2, d⟩
theorem Inv.unpinned {pins pl : List (Addr × Obj)} {σ : St} {H : Hp} {s : Shared} (I : Inv X (pins ++ pl) σ H s) : Inv X pins σ H s := I.pins_of fun p hp => I.pin p (List.mem_append_right _ (List.mem_append_left _ hp))
theorem ps_for {iter : Expr} {body : List Stmt} {wi : TI} {g : TG} {tb : TS} {pos : Pos} (hp : PassesOwn (model X.prog X.w) X.A X.env X.xe) (hc : X.calm = true) (hi : PI X tg iter wi) (hg : PG X tg g) (hb : PSs X body tb)
    (hs : ∀ x, foldedSetIterable iter X.env x = pure x := by intro _; rfl) : PS X (.For tg iter body [] pos) (tFor wi g tb) := by
  intro pins s σ H D I h
  refine wpAny_For (thn (hi pins s σ H _ I h) fun v s1 h1 => thn h1 fun itv s2 h2 => ?_) hs
  obtain ⟨it, fp, tn, J, H2, e, I2, T, st2, f2, W, ⟨m0, w0⟩, turn⟩ := h2
  subst e
  -- what stays true of the iterator's objects through the loop
  have stat : ∀ {H' : Hp}, (∀ b ∈ fp, H' b = none) → ∀ b ∈ fp, FpOk X pins H' b := fun hn b hb => ⟨hn b hb, (f2 b hb).2⟩
  refine codeAny_forLoop_any (fun n s' => ∃ i σ' H', Inv X pins σ' H' s' ∧ tn i s'.heap ∧ (∀ b ∈ fp, H' b = none) ∧ W i n σ' H') ?_ m0 ⟨0, σ, H2, I2, st2, fun b hb => (f2 b hb).1, w0⟩
  rintro n s3 ⟨i, σ3, H3, I3, st3, fr3, w3⟩
  rcases turn i n σ3 H3 w3 with ⟨stop, qn⟩ | ⟨go, N, hN, step⟩
  · refine wpAny_passesOwn hp (thn (T.done X rfl rfl rfl hc i pins s3 σ3 H3 X.xe I3 (stat fr3) st3 stop) fun r s4 ⟨hr, I4⟩ => ?_)
    subst hr
    exact wpAny_execs_nil ⟨σ3, H3, I4, qn⟩
  · refine wpAny_passesOwn hp (thn (T.item X rfl rfl rfl hc i pins s3 σ3 H3 X.xe I3 (stat fr3) st3 go) fun r s4 ⟨u, hr, h4⟩ => ?_)
    subst hr
    refine wpAny_passesOwn hp (thn h4 fun _ s5 ⟨x, H5, I5, r5, y5, st5, fr5⟩ => ?_)
    have I5' := I5.pinned (stat fr5) (T.obj _ _ st5)
    refine wpAny_passesOwn hp (thn (hg _ s5 σ3 H5 x u _ I5' r5 (step x H5 y5)) fun _ s6 ⟨σ6, H6, I6, q6⟩ => ?_)
    refine wpAny_passesOwn hp (thn (hb _ s6 σ6 H6 _ I6 q6) fun f s7 q7 => ?_)
    have again : ∀ {σ7 : St} {H7 : Hp}, Inv X (pins ++ pinsAt fp s5.heap) σ7 H7 s7 → N σ7 H7 → ∃ m, m < n ∧ ∃ i σ' H', Inv X pins σ' H' s7 ∧ tn i s7.heap ∧ (∀ b ∈ fp, H' b = none) ∧ W i m σ' H' := fun {σ7 H7} I7 n7 => by
      obtain ⟨m', hm, w7⟩ := hN σ7 H7 n7
      refine ⟨m', hm, i + 1, σ7, H7, I7.unpinned, T.keep _ _ _ st5 fun b hb o e => (I7.pin (b, o) (List.mem_append_right _ (List.mem_append_right _ (mem_pinsAt hb e)))).1, fun b hb => ?_, w7⟩
      obtain ⟨o, e, d⟩ := T.obj _ _ st5 b hb
      exact (I7.pin (b, o) (List.mem_append_right _ (List.mem_append_right _ (mem_pinsAt hb e)))).2.1
    cases f with
    | next => obtain ⟨σ7, H7, I7, n7⟩ := q7; exact again I7 n7
    | cont => obtain ⟨σ7, H7, I7, n7⟩ := q7; exact again I7 n7
    | brk => obtain ⟨σ7, H7, I7, q7⟩ := q7; exact ⟨σ7, H7, I7.unpinned, q7⟩
    | ret v => obtain ⟨x7, σ7, H7, I7, r7, q7⟩ := q7; exact ⟨x7, σ7, H7, I7.unpinned, r7, q7⟩
end

/-! ### the forms one uses -/
/-- over a list that the body leaves as it is -/
theorem for_list {K : PySem.W.Frag} {a : Addr} {xs : List V} {g : TG} {tb : TS} {D : Ends} {σ : St} {H : Hp} (Pv : Nat → St → Hp → Prop) (h0 : Pv 0 σ H) (hl : ∀ i σ H, i ≤ xs.length → Pv i σ H → SqL K H a xs)
    (hs : ∀ i x σ H, xs[i]? = some x → Pv i σ H → g x σ H fun σ2 H2 => tb { D with nx := Pv (i + 1), ct := Pv (i + 1), bk := D.nx } σ2 H2) (hd : ∀ σ H, Pv xs.length σ H → D.nx σ H) :
    ∃ W : Nat → Nat → St → Hp → Prop, (∃ m, W 0 m σ H) ∧ ∀ i m σ H, W i m σ H →
      ((Itl K a).stop i H ∧ D.nx σ H) ∨ ((Itl K a).go i H ∧ ∃ N : St → Hp → Prop, (∀ σ' H', N σ' H' → ∃ m', m' < m ∧ W (i + 1) m' σ' H') ∧ ∀ x H', (Itl K a).yld i H x H' → g x σ H' fun σ2 H2 => tb { D with nx := N, ct := N, bk := D.nx } σ2 H2) := by
  refine ⟨fun i m σ H => m = xs.length - i ∧ i ≤ xs.length ∧ Pv i σ H, ⟨xs.length, by simp, Nat.zero_le _, h0⟩, ?_⟩
  rintro i m σ H ⟨rfl, hi, p⟩
  have q := hl i σ H hi p
  by_cases hlt : i < xs.length
  · refine .inr ⟨⟨xs, xs[i], q, by simp [hlt]⟩, Pv (i + 1), fun σ' H' p' => ⟨xs.length - (i + 1), by omega, rfl, hlt, p'⟩, fun x H' y => ?_⟩
    obtain ⟨e, y⟩ := y
    subst e
    exact hs i x σ _ (y xs q) p
  · have e : i = xs.length := by omega
    subst e
    exact .inl ⟨⟨xs, q, Nat.le_refl _⟩, hd σ H p⟩
theorem for_range {lo : Int} {n : Nat} {g : TG} {tb : TS} {D : Ends} {σ : St} {H : Hp} (Pv : Nat → St → Hp → Prop) (h0 : Pv 0 σ H)
    (hs : ∀ i σ H, i < n → Pv i σ H → g (.int (lo + i)) σ H fun σ2 H2 => tb { D with nx := Pv (i + 1), ct := Pv (i + 1), bk := D.nx } σ2 H2) (hd : ∀ σ H, Pv n σ H → D.nx σ H) :
    ∃ W : Nat → Nat → St → Hp → Prop, (∃ m, W 0 m σ H) ∧ ∀ i m σ H, W i m σ H →
      ((Itr lo n).stop i H ∧ D.nx σ H) ∨ ((Itr lo n).go i H ∧ ∃ N : St → Hp → Prop, (∀ σ' H', N σ' H' → ∃ m', m' < m ∧ W (i + 1) m' σ' H') ∧ ∀ x H', (Itr lo n).yld i H x H' → g x σ H' fun σ2 H2 => tb { D with nx := N, ct := N, bk := D.nx } σ2 H2) := by
  refine ⟨fun i m σ H => m = n - i ∧ i ≤ n ∧ Pv i σ H, ⟨n, by simp, Nat.zero_le _, h0⟩, ?_⟩
  rintro i m σ H ⟨rfl, hi, p⟩
  by_cases hlt : i < n
  · refine .inr ⟨hlt, Pv (i + 1), fun σ' H' p' => ⟨n - (i + 1), by omega, rfl, hlt, p'⟩, fun x H' y => ?_⟩
    obtain ⟨e, y⟩ := y
    subst e y
    exact hs i σ _ hlt p
  · have e : i = n := by omega
    subst e
    exact .inl ⟨Nat.le_refl _, hd σ H p⟩
end L2

namespace L2
open PySem PySem.Spec PyProof.Rows

abbrev R2 := V → V → Hp → VK → Prop
/-- a two-place operation on values: f is binaryOp op, inplaceOp op or compareOp op -/
def OpR (X : Cx) (f : Value → Value → Sem Value) (r : R2) : Prop :=
  ∀ (pins : List (Addr × Obj)) (s : Shared) (σ : St) (H : Hp) (x y : V) (v u : Value) (Q : VK), Inv X pins σ H s → RelV x v → RelV y u → r x y H Q →
    wpAny (model X.prog X.w) X.A (f v u) (EP X pins σ Q) X.xe s
/-- a one-place operation -/
def UnR (X : Cx) (f : Value → Sem Value) (r : V → Hp → VK → Prop) : Prop :=
  ∀ (pins : List (Addr × Obj)) (s : Shared) (σ : St) (H : Hp) (x : V) (v : Value) (Q : VK), Inv X pins σ H s → RelV x v → r x H Q →
    wpAny (model X.prog X.w) X.A (f v) (EP X pins σ Q) X.xe s
/-- a call of a value that is known (a builtin, a type) with values -/
def CallR (X : Cx) (f : Value) (r : List V → Hp → VK → Prop) : Prop :=
  ∀ (pins : List (Addr × Obj)) (s : Shared) (σ : St) (H : Hp) (xs : List V) (us : List Value) (Q : VK), Inv X pins σ H s → Vals xs us → r xs H Q →
    wpAny (model X.prog X.w) X.A (call f us) (EP X pins σ Q) X.xe s
def tOp (r : R2) (ta tb : TE) : TE := fun σ H Q => ta σ H fun x H1 => tb σ H1 fun y H2 => r x y H2 Q
def tUn (r : V → Hp → VK → Prop) (ta : TE) : TE := fun σ H Q => ta σ H fun x H1 => r x H1 Q
/-- ints in, under C, and a value out -/
def rI (C : Int → Int → Prop) (g : Int → Int → V) : R2 := fun x y H Q => ∃ i j, x = .int i ∧ y = .int j ∧ C i j ∧ Q (g i j) H
def rI0 (g : Int → Int → V) : R2 := fun x y H Q => ∃ i j, x = .int i ∧ y = .int j ∧ Q (g i j) H
def rU (g : Int → V) : V → Hp → VK → Prop := fun x H Q => ∃ i, x = .int i ∧ Q (g i) H

section
variable {X : Cx} {a b c : Expr} {ta tb tc : TE} {pos : Pos}

theorem binT (ha : PE X a ta) (hb : PE X b tb) {pins : List (Addr × Obj)} {s : Shared} {σ : St} {H : Hp} {R : V → V → Hp → Prop} (I : Inv X pins σ H s)
    (h : ta σ H fun x H1 => tb σ H1 fun y H2 => R x y H2) {Q : Value → Shared → Prop} {f : Value → Value → Sem Value}
    (hf : ∀ v u s2 x y H2, Inv X pins σ H2 s2 → RelV x v → RelV y u → R x y H2 → wpAny (model X.prog X.w) X.A (f v u) Q X.xe s2) :
    wpAny (model X.prog X.w) X.A (eval a X.env) (fun v s₁ => wpAny (model X.prog X.w) X.A (eval b X.env) (fun u s₂ => wpAny (model X.prog X.w) X.A (f v u) Q X.xe s₂) X.xe s₁) X.xe s := by
  refine thn (ha pins s σ H _ I h) fun v s1 ⟨x, H1, I1, r1, q1⟩ => ?_
  refine thn (hb pins s1 σ H1 _ I1 q1) fun u s2 ⟨y, H2, I2, r2, q2⟩ => ?_
  exact hf v u s2 x y H2 I2 r1 r2 q2

theorem pe_op {op : Operator} {r : R2} (ho : OpR X (binaryOp op) r) (ha : PE X a ta) (hb : PE X b tb) : PE X (.BinOp a op b pos) (tOp r ta tb) := by
  intro pins s σ H Q I h
  exact wpAny_BinOp (binT ha hb I h fun v u s2 x y H2 I2 rx ry q => ho pins s2 σ H2 x y v u Q I2 rx ry q)
theorem pe_un {op : UnaryOp} {r : V → Hp → VK → Prop} (ho : UnR X (unaryOp op) r) (ha : PE X a ta) : PE X (.UnaryOp op a pos) (tUn r ta) := by
  intro pins s σ H Q I h
  exact UnaryOp_ (thn (ha pins s σ H _ I h) fun v s1 ⟨x, H1, I1, r1, q1⟩ => ho pins s1 σ H1 x v Q I1 r1 q1)
/-! ### ints -/
theorem opI {f : Value → Value → Sem Value} {C : Int → Int → Prop} {g : Int → Int → Int}
    (rule : ∀ (i j : Int) (t u : Tok) (s : Shared) (Q : Value → Shared → Prop) (E : Value → Shared → Prop), C i j → Q (.int (g i j) s.toks) { s with toks := s.toks + 1 } → wpAny (model X.prog X.w) X.A (f (.int i t) (.int j u)) Q E s) :
    OpR X f (rI C fun i j => .int (g i j)) := by
  intro pins s σ H x y v u Q I rx ry h
  obtain ⟨i, j, rfl, rfl, hc, q⟩ := h
  obtain ⟨t, rfl⟩ := rx
  obtain ⟨t', rfl⟩ := ry
  exact rule i j t t' s _ _ hc ⟨.int (g i j), H, I.tok _, ⟨_, rfl⟩, q⟩
theorem opI0 {f : Value → Value → Sem Value} {g : Int → Int → Int}
    (rule : ∀ (i j : Int) (t u : Tok) (s : Shared) (Q : Value → Shared → Prop) (E : Value → Shared → Prop), Q (.int (g i j) s.toks) { s with toks := s.toks + 1 } → wpAny (model X.prog X.w) X.A (f (.int i t) (.int j u)) Q E s) :
    OpR X f (rI0 fun i j => .int (g i j)) := by
  intro pins s σ H x y v u Q I rx ry h
  obtain ⟨i, j, rfl, rfl, q⟩ := h
  obtain ⟨t, rfl⟩ := rx
  obtain ⟨t', rfl⟩ := ry
  exact rule i j t t' s _ _ ⟨.int (g i j), H, I.tok _, ⟨_, rfl⟩, q⟩
theorem opB0 {f : Value → Value → Sem Value} {g : Int → Int → Bool}
    (rule : ∀ (i j : Int) (t u : Tok) (s : Shared) (Q : Value → Shared → Prop) (E : Value → Shared → Prop), Q (.bool (g i j)) s → wpAny (model X.prog X.w) X.A (f (.int i t) (.int j u)) Q E s) :
    OpR X f (rI0 fun i j => .bl (g i j)) := by
  intro pins s σ H x y v u Q I rx ry h
  obtain ⟨i, j, rfl, rfl, q⟩ := h
  obtain ⟨t, rfl⟩ := rx
  obtain ⟨t', rfl⟩ := ry
  exact rule i j t t' s _ _ ⟨.bl (g i j), H, I, rfl, q⟩

def CDiv (i j : Int) : Prop := 0 < j ∧ j < 1073741824
def CPow (i j : Int) : Prop := 0 ≤ j ∧ j ≤ 1000000 ∧ i.natAbs < 2 ^ 64
def CMul (i j : Int) : Prop := (-(2 ^ 64) < i ∧ i < 2 ^ 64) ∨ (-(2 ^ 64) < j ∧ j < 2 ^ 64)
theorem CMul.ok {i j : Int} (h : CMul i j) : IntMulOk i j := by
  rcases h with ⟨h1, h2⟩ | ⟨h1, h2⟩
  · exact .of_left (intBits_le_64 h1 h2)
  · exact .of_right (intBits_le_64 h1 h2)
theorem two_pow_nn (k : Nat) : (0 : Int) ≤ 2 ^ k := by
  rw [two_pow_cast]
  exact Int.natCast_nonneg _

theorem op_add : OpR X (binaryOp .Add) (rI0 fun i j => .int (i + j)) := opI0 fun _ _ _ _ _ _ _ q => add_int q
theorem op_sub : OpR X (binaryOp .Sub) (rI0 fun i j => .int (i - j)) := opI0 fun _ _ _ _ _ _ _ q => sub_int q
theorem op_mul : OpR X (binaryOp .Mult) (rI CMul fun i j => .int (i * j)) := opI fun _ _ _ _ _ _ _ hc q => mul_int q hc.ok
/-- // by a positive divisor -/
theorem op_fdiv : OpR X (binaryOp .FloorDiv) (rI CDiv fun i j => .int (i / j)) := opI fun i j _ _ _ _ _ hc q => by
  have h1 : (0 : Int) < j := hc.1
  have h2 : j < 1073741824 := hc.2
  exact floordiv_int (by omega) (by rw [Int.fdiv_eq_ediv_of_nonneg i (by omega)]; exact q) (.inl (PyProof.noPylong_small (by omega)))
/-- % by a positive divisor of any size -/
theorem op_mod : OpR X (binaryOp .Mod) (rI (fun _ j => 0 < j) fun i j => .int (i % j)) := opI fun i j _ _ _ _ _ hc q => by
  have h1 : (0 : Int) < j := hc
  exact mod_int' (by omega) (by rw [Int.fmod_eq_emod_of_nonneg i (by omega)]; exact q)
theorem op_shl : OpR X (binaryOp .LShift) (rI CPow fun i j => .int (i * 2 ^ j.toNat)) := opI fun _ _ _ _ _ _ _ hc q => lshift_int_small hc.1 hc.2.1 hc.2.2 q
theorem op_shr : OpR X (binaryOp .RShift) (rI (fun _ j => 0 ≤ j) fun i j => .int (i / 2 ^ j.toNat)) := opI fun i j _ _ _ _ _ hc q =>
  rshift_int hc (by rw [Int.fdiv_eq_ediv_of_nonneg i (two_pow_nn _)]; exact q)
theorem op_and : OpR X (binaryOp .BitAnd) (rI0 fun i j => .int (Builtin.bitAnd i j)) := opI0 fun _ _ _ _ _ _ _ q => and_int q
theorem op_or : OpR X (binaryOp .BitOr) (rI0 fun i j => .int (Builtin.bitOr i j)) := opI0 fun _ _ _ _ _ _ _ q => or_int q
theorem unI {f : Value → Sem Value} {g : Int → Int}
    (rule : ∀ (i : Int) (t : Tok) (s : Shared) (Q : Value → Shared → Prop) (E : Value → Shared → Prop), Q (.int (g i) s.toks) { s with toks := s.toks + 1 } → wpAny (model X.prog X.w) X.A (f (.int i t)) Q E s) :
    UnR X f (rU fun i => .int (g i)) := by
  intro pins s σ H x v Q I rx h
  obtain ⟨i, rfl, q⟩ := h
  obtain ⟨t, rfl⟩ := rx
  exact rule i t s _ _ ⟨.int (g i), H, I.tok _, ⟨_, rfl⟩, q⟩
theorem un_inv : UnR X (unaryOp .Invert) (rU fun i => .int (Builtin.bitNot i)) := unI fun _ _ _ _ _ q => invert_int q

/-! ### bools among ints: n += (a < b) -/
end

/-! ### comparisons -/
/-- the scalars that == tells apart as data does -/
def scal : V → V → Bool
  | .non, .non => true | .non, .int _ => true | .int _, .non => true | .non, .bl _ => true | .bl _, .non => true | .non, .str _ => true | .str _, .non => true
  | .int _, .int _ => true | .bl _, .bl _ => true | .str _, .str _ => true | .byt _, .byt _ => true
  | .int _, .str _ => true | .str _, .int _ => true | .bl _, .str _ => true | .str _, .bl _ => true
  | _, _ => false
def rEq : R2 := fun x y H Q => scal x y = true ∧ Q (.bl (decide (x = y))) H
def rNe : R2 := fun x y H Q => scal x y = true ∧ Q (.bl (!decide (x = y))) H

theorem dec_int {i j : Int} : decide (V.int i = V.int j) = (i == j) := by
  rw [Bool.eq_iff_iff]
  simp
theorem dec_bl {i j : Bool} : decide (V.bl i = V.bl j) = (i == j) := by
  rw [Bool.eq_iff_iff]
  simp
theorem dec_str {i j : Str} : decide (V.str i = V.str j) = (i == j) := by
  rw [Bool.eq_iff_iff]
  simp
theorem dec_byt {i j : Array UInt8} : decide (V.byt i = V.byt j) = (i.toList == j.toList) := by
  rw [Bool.eq_iff_iff]
  cases i
  cases j
  simp

section
variable {X : Cx} {a b c : Expr} {ta tb tc : TE} {pos : Pos}
theorem fin_bl {pins : List (Addr × Obj)} {σ : St} {H : Hp} {s : Shared} {Q : VK} {k k' : Bool} (I : Inv X pins σ H s) (q : Q (.bl k) H) (e : k = k') : EP X pins σ Q (.bool k') s := by
  subst e
  exact ⟨.bl k, H, I, rfl, q⟩
theorem op_eq : OpR X (compareOp .Eq) rEq := by
  intro pins s σ H x y v u Q I rx ry h
  obtain ⟨hs, q⟩ := h
  cases x with
  | non =>
    cases rx
    cases y with
    | non => cases ry; exact PySem.EqNone.eq_none_none (fin_bl I q (by simp))
    | bl j => cases ry; exact PySem.EqNone.eq_none_bool (fin_bl I q (by simp))
    | int j => obtain ⟨t', rfl⟩ := ry; exact PySem.EqNone.eq_none_int (fin_bl I q (by simp))
    | str j => obtain ⟨t', rfl⟩ := ry; exact PySem.EqNone.eq_none_str (fin_bl I q (by simp))
    | _ => exact absurd (show false = true from hs) Bool.false_ne_true
  | bl i =>
    cases rx
    cases y with
    | non => cases ry; exact PySem.EqNone.eq_bool_none (fin_bl I q (by simp))
    | bl j => cases ry; exact eq_bool (fin_bl I q dec_bl)
    | str j => obtain ⟨t', rfl⟩ := ry; exact PySem.EqMixed.eq_bool_str (fin_bl I q (by simp))
    | _ => exact absurd (show false = true from hs) Bool.false_ne_true
  | int i =>
    obtain ⟨t, rfl⟩ := rx
    cases y with
    | non => cases ry; exact PySem.EqNone.eq_int_none (fin_bl I q (by simp))
    | int j => obtain ⟨t', rfl⟩ := ry; exact eq_int (fin_bl I q dec_int)
    | str j => obtain ⟨t', rfl⟩ := ry; exact PySem.EqMixed.eq_int_str (fin_bl I q (by simp))
    | _ => exact absurd (show false = true from hs) Bool.false_ne_true
  | str i =>
    obtain ⟨t, rfl⟩ := rx
    cases y with
    | non => cases ry; exact PySem.EqNone.eq_str_none (fin_bl I q (by simp))
    | bl j => cases ry; exact PySem.EqMixed.eq_str_bool (fin_bl I q (by simp))
    | int j => obtain ⟨t', rfl⟩ := ry; exact PySem.EqMixed.eq_str_int (fin_bl I q (by simp))
    | str j => obtain ⟨t', rfl⟩ := ry; exact eq_str (fin_bl I q dec_str)
    | _ => exact absurd (show false = true from hs) Bool.false_ne_true
  | byt i =>
    obtain ⟨t, rfl⟩ := rx
    cases y with
    | byt j => obtain ⟨t', rfl⟩ := ry; exact PySem.W.eq_bytes (fin_bl I q dec_byt)
    | _ => exact absurd (show false = true from hs) Bool.false_ne_true
  | _ => cases y <;> exact absurd (show false = true from hs) Bool.false_ne_true
theorem op_ne : OpR X (compareOp .NotEq) rNe := by
  intro pins s σ H x y v u Q I rx ry h
  obtain ⟨hs, q⟩ := h
  cases x with
  | non =>
    cases rx
    cases y with
    | non => cases ry; exact PySem.EqNone.ne_none_none (fin_bl I q (by simp))
    | bl j => cases ry; exact PySem.EqNone.ne_none_bool (fin_bl I q (by simp))
    | int j => obtain ⟨t', rfl⟩ := ry; exact PySem.EqNone.ne_none_int (fin_bl I q (by simp))
    | str j => obtain ⟨t', rfl⟩ := ry; exact PySem.EqNone.ne_none_str (fin_bl I q (by simp))
    | _ => exact absurd (show false = true from hs) Bool.false_ne_true
  | bl i =>
    cases rx
    cases y with
    | non => cases ry; exact PySem.EqNone.ne_bool_none (fin_bl I q (by simp))
    | bl j => cases ry; exact ne_bool (fin_bl I q (congrArg not dec_bl))
    | str j => obtain ⟨t', rfl⟩ := ry; exact PySem.EqMixed.ne_bool_str (fin_bl I q (by simp))
    | _ => exact absurd (show false = true from hs) Bool.false_ne_true
  | int i =>
    obtain ⟨t, rfl⟩ := rx
    cases y with
    | non => cases ry; exact PySem.EqNone.ne_int_none (fin_bl I q (by simp))
    | int j => obtain ⟨t', rfl⟩ := ry; exact ne_int (fin_bl I q (congrArg not dec_int))
    | str j => obtain ⟨t', rfl⟩ := ry; exact PySem.EqMixed.ne_int_str (fin_bl I q (by simp))
    | _ => exact absurd (show false = true from hs) Bool.false_ne_true
  | str i =>
    obtain ⟨t, rfl⟩ := rx
    cases y with
    | non => cases ry; exact PySem.EqNone.ne_str_none (fin_bl I q (by simp))
    | bl j => cases ry; exact PySem.EqMixed.ne_str_bool (fin_bl I q (by simp))
    | int j => obtain ⟨t', rfl⟩ := ry; exact PySem.EqMixed.ne_str_int (fin_bl I q (by simp))
    | str j => obtain ⟨t', rfl⟩ := ry; exact ne_str (fin_bl I q (congrArg not dec_str))
    | _ => exact absurd (show false = true from hs) Bool.false_ne_true
  | byt i =>
    obtain ⟨t, rfl⟩ := rx
    cases y with
    | byt j => obtain ⟨t', rfl⟩ := ry; exact PySem.W.ne_bytes (fin_bl I q (congrArg not dec_byt))
    | _ => exact absurd (show false = true from hs) Bool.false_ne_true
  | _ => cases y <;> exact absurd (show false = true from hs) Bool.false_ne_true

theorem op_lt : OpR X (compareOp .Lt) (rI0 fun i j => .bl (decide (i < j))) := opB0 fun _ _ _ _ _ _ _ q => lt_int q
theorem op_gt : OpR X (compareOp .Gt) (rI0 fun i j => .bl (decide (j < i))) := opB0 fun _ _ _ _ _ _ _ q => gt_int q
/-- is None, is not None: the right side a value none -/
theorem op_isN : OpR X (compareOp .Is) (fun x y H Q => y = .non ∧ Q (.bl (decide (x = .non))) H) := by
  intro pins s σ H x y v u Q I rx ry h
  obtain ⟨rfl, q⟩ := h
  cases ry
  refine is_none_gen (fin_bl I q ?_)
  cases x <;> first
    | (cases rx; rfl)
    | (obtain ⟨t, rfl⟩ := rx; rfl)
theorem op_notN : OpR X (compareOp .IsNot) (fun x y H Q => y = .non ∧ Q (.bl (!decide (x = .non))) H) := by
  intro pins s σ H x y v u Q I rx ry h
  obtain ⟨rfl, q⟩ := h
  cases ry
  refine isnot_none_gen (fin_bl I q ?_)
  cases x <;> first
    | (cases rx; rfl)
    | (obtain ⟨t, rfl⟩ := rx; rfl)

/-- two rules for one operation: by cases -/
theorem OpR.or {f : Value → Value → Sem Value} {r r' : R2} (h : OpR X f r) (h' : OpR X f r') : OpR X f (fun x y H Q => r x y H Q ∨ r' x y H Q) := by
  intro pins s σ H x y v u Q I rx ry q
  rcases q with q | q
  · exact h pins s σ H x y v u Q I rx ry q
  · exact h' pins s σ H x y v u Q I rx ry q

theorem nomark (b : Expr) {op : CmpOp} (h : op ≠ .In := by decide) (h2 : op ≠ .NotIn := by decide) : behindInMarks op b = false := by
  have e1 : (op == CmpOp.In) = false := by cases op <;> first | rfl | exact absurd rfl h
  have e2 : (op == CmpOp.NotIn) = false := by cases op <;> first | rfl | exact absurd rfl h2
  cases b <;> simp [behindInMarks, e1, e2]
/-- a comparison as a value; hm: nomark b, or (for in, not in) by with_unfolding_all rfl -/
theorem pe_cmpR {op : CmpOp} {r : R2} (ho : OpR X (compareOp op) r) (ha : PE X a ta) (hb : PE X b tb) (hm : behindInMarks op b = false) : PE X (.Compare a [op] [b] pos) (tOp r ta tb) := by
  intro pins s σ H Q I h
  exact wpAny_Compare1 (binT ha hb I h fun v u s2 x y H2 I2 rx ry q => ho pins s2 σ H2 x y v u Q I2 rx ry q) hm
/-- a reading of a value as a test -/
def tTest (t : TE) : TT := fun σ H Q => t σ H fun x H' => ∃ k, x = .bl k ∧ Q k H'
theorem pt_cmpR {op : CmpOp} {r : R2} (ho : OpR X (compareOp op) r) (ha : PE X a ta) (hb : PE X b tb) (hm : behindInMarks op b = false) : PT X (.Compare a [op] [b] pos) (tTest (tOp r ta tb)) := by
  intro pins s σ H Q I h
  refine wpAny_isTrue_Compare1 (thn (ha pins s σ H _ I h) fun v s1 ⟨x, H1, I1, r1, q1⟩ => thn (hb pins s1 σ H1 _ I1 q1) fun u s2 ⟨y, H2, I2, r2, q2⟩ =>
    thn (ho pins s2 σ H2 x y v u _ I2 r1 r2 q2) fun c s3 ⟨z, H3, I3, r3, k, e, q3⟩ => ?_) hm
  subst e
  cases r3
  exact wpAny_truthy_bool ⟨H3, I3, q3⟩
/-! ### truth -/
theorem line63 : (sizeLine : Nat) < 2 ^ 63 := by rw [sizeLine_eq]; decide
/-! ### strs and bytes -/
/-! ### scalar builtins, by CallR -/
theorem vals1 {x : V} {us : List Value} (r : Vals [x] us) : ∃ u, us = [u] ∧ RelV x u := by
  cases r with
  | cons r1 r2 => cases r2; exact ⟨_, rfl, r1⟩
theorem vals2 {x y : V} {us : List Value} (r : Vals [x, y] us) : ∃ u w', us = [u, w'] ∧ RelV x u ∧ RelV y w' := by
  cases r with
  | cons r1 r2 =>
    cases r2 with
    | cons r3 r4 => cases r4; exact ⟨_, _, rfl, r1, r3⟩
end
end L2

namespace L2
open PySem PySem.Spec PyProof.Rows

/-! ### an instance, its attributes a map -/
structure ObjM (h : Heap) (x dx C : Addr) (mA : Str → Option Value) : Prop where
  obj : h.get? x = some (PySem.W.instObj C dx)
  ns : h.Ns1 dx mA
  ne : dx ≠ x

theorem lookIn_ns {h : Heap} {dx : Addr} {mA : Str → Option Value} (n : h.Ns1 dx mA) : ∃ od, h.get? dx = some od ∧ ∀ name, PySem.W.lookIn name od = some (mA name) := by
  obtain ⟨o, es, ep, ho, hd, hk, _, hm⟩ := n
  refine ⟨o, ho, fun name => ?_⟩
  have e := hm name
  unfold nsFind findBy at e
  rw [← Array.find?_toList] at e
  unfold PySem.W.lookIn
  rw [hd]
  dsimp only
  split
  · rename_i y q
    rw [q] at e
    exact congrArg some e
  · rename_i q
    rw [q] at e
    have a : es.toList.any (·.refKey) = false := by
      rw [List.any_eq_false]
      intro y hy
      obtain ⟨z, t, hkey⟩ := hk y (Array.mem_toList_iff.mp hy)
      simp [DictEntry.refKey, hkey]
    have a' : ¬ es.toList.any (·.refKey) = true := by rw [a]; exact Bool.false_ne_true
    rw [if_neg a']
    exact congrArg some e

theorem ObjM.look {h : Heap} {x dx C : Addr} {mA : Str → Option Value} (I : ObjM h x dx C mA) : ∃ od, PySem.W.InstAt h x (PySem.W.instObj C dx) C (some od) ∧ ∀ name, PySem.W.lookIn name od = some (mA name) :=
  let ⟨od, ho, hl⟩ := lookIn_ns I.ns
  ⟨od, ⟨I.obj, rfl, rfl, ho⟩, hl⟩

section
variable {prog : Program} {w : World} {A : Around} {E : Value → Shared → Prop} {s : Shared} {K : PySem.W.Frag} {x dx C f : Addr} {mA : Str → Option Value} {name : Str} {v : Value}

end

/-! ### the attributes as a list of pairs -/
theorem RelO.some_of {v : V} {o : Option Value} (r : RelO (some v) o) : ∃ u, o = some u ∧ RelV v u := by
  cases o with
  | none => exact (show False from r).elim
  | some u => exact ⟨u, rfl, r⟩
section
variable {P : Program} {w : World} {H H' : Hp} {h h' : Heap} {a C dx : Addr} {fs fs' : List (Str × V)}
theorem ins_get (hok : HOk P w H h) (e : H a = some (.ins C dx fs)) : ∃ mA, ObjM h a dx C mA ∧ (∀ f, RelO (fs.lookup f) (mA f)) ∧ PySem.Within mA (fs.map (·.1)) ∧ fs.length ≤ 1000 ∧ H dx = some (.own a) := by
  obtain ⟨d, z, ne, ob, mA, n, r, q⟩ := (show ObjOk P w H h a (.ins C dx fs) from hok a _ e)
  exact ⟨mA, ⟨ob, n, ne⟩, r, q, z, d⟩
end

/-! ### what of the text a class must have -/
structure Cls (K : PySem.W.Frag) (C : Addr) : Prop where
  pg : PySem.W.plainGet K C Str.empty = true
  hd : PySem.W.hasDictIn K C = true
  po : PySem.W.plainOver K C = true
  sa : PySem.W.findIn K (.ref C) "__setattr__" = some (some (.builtin "object.__setattr__"))
theorem Cls.get {K : PySem.W.Frag} {C : Addr} (c : Cls K C) (f : Str) : PySem.W.plainGet K C f = true := c.pg
/-- a constant of the class -/
structure Con (K : PySem.W.Frag) (C : Addr) (f : Str) (v : V) (u : Value) : Prop where
  at_ : PySem.W.findIn K (.ref C) f = some (some u)
  rel : RelV v u
  get : PySem.W.specialIn K u "__get__" = some none
  cp : PySem.W.copiedNames.contains f = false
/-- a method: a plain def of the class or of one above it -/
structure Meth (K : PySem.W.Frag) (C : Addr) (m : Str) (f : Addr) : Prop where
  at_ : PySem.W.findIn K (.ref C) m = some (some (.ref f))
  fn : PySem.W.isFn K (.ref f) = true
  kp : PySem.W.keepIn K (.ref f) = true

section
variable {X : Cx} {pins : List (Addr × Obj)} {σ : St} {H : Hp} {s : Shared} {a C dx : Addr} {fs : List (Str × V)} {f : Str} {v : V} {A : Around} {E : Value → Shared → Prop}

/-- a new instance, tracked, without attributes -/
theorem Inv.made (I : Inv X pins σ H s) : Inv X pins σ (upd (upd H s.heap.objs.size (.own (s.heap.objs.size + 1))) (s.heap.objs.size + 1) (.ins C s.heap.objs.size []))
    { s with heap := (s.heap.push PySem.W.emptyDict).push (PySem.W.instObj C s.heap.objs.size) } := by
  have e1 : (s.heap.push PySem.W.emptyDict).get? s.heap.objs.size = some PySem.W.emptyDict := Heap.get?_push_size s.heap rfl
  have e2 : ((s.heap.push PySem.W.emptyDict).push (PySem.W.instObj C s.heap.objs.size)).get? (s.heap.objs.size + 1) = some (PySem.W.instObj C s.heap.objs.size) := by
    have := Heap.get?_push_size (s.heap.push PySem.W.emptyDict) (o := PySem.W.instObj C s.heap.objs.size) rfl
    rwa [Heap.size_push] at this
  have e3 : (s.heap.push PySem.W.emptyDict).Ns s.heap.objs.size (fun _ => none) := ⟨PySem.W.emptyDict, #[], _, e1, rfl, (fun e he => absurd he (by simp)), fun _ => rfl⟩
  have I1 := I.laid (a := s.heap.objs.size) (o := .own (s.heap.objs.size + 1)) (h' := s.heap.push PySem.W.emptyDict) (t' := s.toks) (fun b u q => Heap.get?_push_of_some _ q) (Nat.le_refl _) ⟨_, e1⟩
  refine I1.laid (a := s.heap.objs.size + 1) (o := .ins C s.heap.objs.size []) (t' := s.toks) (fun b u q => Heap.get?_push_of_some _ q) (Nat.le_of_eq (Heap.size_push _ _)) ?_
  have ne : s.heap.objs.size ≠ s.heap.objs.size + 1 := Nat.ne_of_lt (Nat.lt_succ_self _)
  refine ⟨by rw [upd_ne ne, upd_same], Nat.zero_le _, ne, e2, fun _ => none, (Heap.Ns1.of_empty e3).at fun o q => Heap.get?_push_of_some _ q, fun _ => True.intro, fun y hy => absurd rfl hy⟩

end

/-! ### readings and rules -/
section
variable {X : Cx} {o e value : Expr} {f : Str} {pos pos' tpos : Pos} {ta tv : TE}
end

/-! ### isinstance -/
section
variable {X : Cx} {pins : List (Addr × Obj)} {σ : St} {H : Hp} {s : Shared} {A : Around} {E : Value → Shared → Prop} {Q : Value → Shared → Prop} {c : Value} {b : Bool}
/-- the type of a value, as the fragment's deciders take it; for an instance its class -/
inductive TyOf (K : PySem.W.Frag) (H : Hp) : V → Value → Prop where
  | non : TyOf K H .non (.type "NoneType")
  | bl (x : Bool) : TyOf K H (.bl x) (.type "bool")
  | int (i : Int) : TyOf K H (.int i) (.type "int")
  | str (x : Str) : TyOf K H (.str x) (.type "str")
  | flt (x : UInt64) : TyOf K H (.flt x) (.type "float")
  | lst {a : Addr} {xs : List V} (e : H a = some (.lst xs)) : TyOf K H (.ref a) (.type "list")
  | frz {a : Addr} {o : Obj} {xs : List V} (e : H a = some (.frz o (.lst xs))) : TyOf K H (.ref a) (.type "list")
  | tup {a : Addr} {xs : List V} (e : H a = some (.tup xs)) : TyOf K H (.ref a) (.type "tuple")
  | dK {a : Addr} {kvs : List (Key × V)} (e : H a = some (.dK kvs)) : TyOf K H (.ref a) (.type "dict")
  | dT {a : Addr} {kvs : List (List Key × V)} (e : H a = some (.dT kvs)) : TyOf K H (.ref a) (.type "dict")
  | ins {a C dx : Addr} {fs : List (Str × V)} (e : H a = some (.ins C dx fs)) (cl : Cls K C) (ha : PySem.W.findIn K (.ref C) "__class__" = some (some (.builtin "object.__class__")))
      (hn : PySem.W.specialIn K (.builtin "object.__class__") "__get__" = some (some (.builtin "getset_descriptor.__get__"))) (htk : PySem.W.takesIn K (.builtin "object.__class__") = some true)
      (hm : PySem.W.mroIn K C (.type "object") = some true) : TyOf K H (.ref a) (.ref C)
/-- isinstance(x, c) for one class c, a built-in or an own one: kitOne's answer -/
theorem isinst_ok {x : V} {u t : Value} (I : Inv X pins σ H s) (rx : RelV x u) (ty : TyOf X.K H x t) (e : PySem.W.kitOne X.K t c = some b) (h : ∀ tk, Q (.bool b) { s with toks := tk }) :
    wpAny (model X.prog X.w) A (call (.builtin "isinstance") [u, c]) Q E s := by
  cases ty with
  | non => cases (show u = Value.none from rx); exact PySem.W.kia_one PySem.W.kitx_none I.kIn True.intro e (fun z => nomatch z) h
  | bl y => cases (show u = Value.bool y from rx); exact PySem.W.kia_one PySem.W.kitx_bool I.kIn True.intro e (fun z => nomatch z) h
  | int i => obtain ⟨t, q⟩ := (show ∃ t, u = Value.int i t from rx); cases q; exact PySem.W.kia_one PySem.W.kitx_int I.kIn True.intro e (fun z => nomatch z) h
  | str y => obtain ⟨t, q⟩ := (show ∃ t, u = Value.str y t from rx); cases q; exact PySem.W.kia_one PySem.W.kitx_str I.kIn True.intro e (fun z => nomatch z) h
  | flt y => obtain ⟨t, q⟩ := (show ∃ t, u = Value.float y t from rx); cases q; exact PySem.W.kia_one PySem.W.kitx_float I.kIn True.intro e (fun z => nomatch z) h
  | @lst a xs ea =>
    cases (show u = Value.ref a from rx)
    obtain ⟨_, _, n, _, h1⟩ := (show ObjOk X.prog X.w H s.heap a (.lst xs) from I.hok a _ ea)
    exact PySem.W.kia_one PySem.W.kitx_list I.kIn ⟨_, h1, rfl⟩ e (fun z => nomatch z) h
  | @frz a ob xs ea =>
    cases (show u = Value.ref a from rx)
    obtain ⟨_, _, _, n, _, h1⟩ := (show ObjOk X.prog X.w H s.heap a (.frz ob (.lst xs)) from I.hok a _ ea)
    exact PySem.W.kia_one PySem.W.kitx_list I.kIn ⟨_, h1, rfl⟩ e (fun z => nomatch z) h
  | @tup a xs ea =>
    cases (show u = Value.ref a from rx)
    obtain ⟨_, _, _, p⟩ := (show ObjOk X.prog X.w H s.heap a (.tup xs) from I.hok a _ ea)
    obtain ⟨o, h1, h2, _⟩ := p
    exact PySem.W.kia_one PySem.W.kitx_tuple I.kIn ⟨o, h1, h2⟩ e (fun z => nomatch z) h
  | @dK a kvs ea =>
    cases (show u = Value.ref a from rx)
    obtain ⟨_, _, vs, _, p⟩ := (show ObjOk X.prog X.w H s.heap a (.dK kvs) from I.hok a _ ea)
    obtain ⟨o, es, ep, h1, h2, _⟩ := p
    exact PySem.W.kia_one PySem.W.kitx_dict I.kIn ⟨o, h1, h2.1⟩ e (fun z => nomatch z) h
  | @dT a kvs ea =>
    cases (show u = Value.ref a from rx)
    obtain ⟨_, _, xs, _, o, es, ep, h1, h2, _⟩ := (show ObjOk X.prog X.w H s.heap a (.dT kvs) from I.hok a _ ea)
    exact PySem.W.kia_one PySem.W.kitx_dict I.kIn ⟨o, h1, h2.1⟩ e (fun z => nomatch z) h
  | @ins a C dx fs ea cl ha hn htk hm =>
    cases (show u = Value.ref a from rx)
    obtain ⟨mA, O, _⟩ := ins_get I.hok ea
    obtain ⟨od, J, _⟩ := O.look
    exact PySem.W.kia_one (PySem.W.kitx_own (cl.get _) cl.hd ha hn htk hm) I.kIn J e (fun z => nomatch z) h
end
end L2

namespace L2
open PySem PySem.Spec PyProof.Rows

/-! ### room -/
structure Room (k : Nat) (A : Around) : Prop where
  hd : A.handled = none
  dp : A.depth + 3 * k + 5 < recursionLimit
  un : A.units + 16 * k + 200 < cLine
theorem Room.mono {j k : Nat} {A : Around} (r : Room k A) (h : j ≤ k) : Room j A := ⟨r.hd, by have := r.dp; omega, by have := r.un; omega⟩
theorem Room.deeper {k : Nat} {A : Around} (r : Room (k + 1) A) (env : Env) : Room k (A.deeper env) :=
  ⟨r.hd, by have := r.dp; show A.depth + 1 + 3 * k + 5 < _; omega, by have := r.un; show A.units + 3 + 16 * k + 200 < _; omega⟩
theorem Room.depth {k : Nat} {A : Around} (r : Room k A) : A.depth < recursionLimit := by have := r.dp; omega
theorem Room.units {k : Nat} {A : Around} (r : Room k A) : A.units + 64 < cLine := by have := r.un; omega
/-! ### argument lists and displays -/
def tNil : TA := fun _ H Q => Q [] H
def tCons (ta : TE) (tr : TA) : TA := fun σ H Q => ta σ H fun x H1 => tr σ H1 fun xs H2 => Q (x :: xs) H2
section
variable {X : Cx} {e : Expr} {es : List Expr} {te : TE} {t : TA} {pos : Pos}
theorem pa_nil : PA X [] tNil := fun _ _ _ _ H Q I h => Calls.spliced_nil ⟨[], H, I, .nil, h⟩
theorem pa_cons (ha : PE X e te) (hr : PA X es t) (hs : starEach (e :: es) X.env = (false, eval e X.env) :: starEach es X.env := by rfl) : PA X (e :: es) (tCons te t) := by
  intro pos pins s σ H Q I h
  rw [hs]
  show wpAny _ _ (spliced ((false, eval e X.env) :: backTo pos (starEach es X.env))) _ _ s
  refine Calls.spliced_cons (thn (ha pins s σ H _ I h) fun u s1 ⟨x, H1, I1, r1, q1⟩ => ?_)
  exact thn (hr pos pins s1 σ H1 _ I1 q1) fun us s2 ⟨xs, H2, I2, r2, q2⟩ => ⟨x :: xs, H2, I2, .cons r1 r2, q2⟩

/-- a tuple, a list of written items -/
def tTup (t : TA) : TE := fun σ H Q => t σ H fun xs H1 => xs.length ≤ sizeLine ∧ ∀ p, H1 p = none → Q (.ref p) (upd H1 p (.tup xs))
def tLst (t : TA) : TE := fun σ H Q => t σ H fun xs H1 => xs.length ≤ sizeLine ∧ ∀ p, H1 p = none → Q (.ref p) (upd H1 p (.lst xs))
theorem pe_tup {x1} (h : PA X es t) : PE X (.Tuple es x1 pos) (tTup t) := by
  intro pins s σ H Q I hq
  refine wpAny_Tuple_spliced (thn (h pos pins s σ H _ I hq) fun us s1 ⟨xs, H1, I1, r, z, q⟩ => ⟨by rw [← r.length]; exact z, ?_⟩)
  have hf : H1 s1.heap.objs.size = none := I1.hok.fresh (Nat.le_refl _)
  refine ⟨.ref s1.heap.objs.size, upd H1 s1.heap.objs.size (.tup xs), I1.laid (t' := s1.toks) (fun b u e => Heap.get?_push_of_some _ e) (Nat.le_refl _) ?_, rfl, q _ hf⟩
  exact ⟨z, us, r, ⟨_, Heap.get?_push_size _ rfl, rfl, _, rfl⟩⟩
theorem pe_lst (h : PA X es t) : PE X (.List es pos) (tLst t) := by
  intro pins s σ H Q I hq
  refine wpAny_List_spliced (thn (h pos pins s σ H _ I hq) fun us s1 ⟨xs, H1, I1, r, z, q⟩ => ⟨by rw [← r.length]; exact z, ?_⟩)
  have hf : H1 s1.heap.objs.size = none := I1.hok.fresh (Nat.le_refl _)
  refine ⟨.ref s1.heap.objs.size, upd H1 s1.heap.objs.size (.lst xs), I1.laid (t' := s1.toks) (fun b u e => Heap.get?_push_of_some _ e) (Nat.le_refl _) ?_, rfl, q _ hf⟩
  exact ⟨z, us, 0, r, Heap.get?_push_size _ rfl⟩
end

/-! ### what a def promises -/
/-- a def's promise: the bound arguments in the parameters' order, the heap, the wanted end, the wanted exception -/
abbrev Sp := List V → Hp → VK → XK → Prop
/-- how an exception lies behind a call (file 08 gives it): the callers' frames, abstract heap and state ahead of the call, the wish, the exception, the state -/
abbrev CXT := List Env → Hp → Shared → XK → Value → Shared → Prop

/-- the state at a call -/
structure Env0 (P : Program) (w : World) (K : PySem.W.Frag) (mg : Str → Option Value) (base : Heap) (A : Around) (outer : List Env) (s : Shared) (H : Hp) : Prop where
  frames : A.frames = some outer
  mod : Mod K mg base
  bs : ∀ b o, base.get? b = some o → s.heap.get? b = some o ∧ H b = none
  bsz : base.objs.size ≤ s.heap.objs.size
  funs : s.heap.FunFrames base outer
  frf : ∀ b ∈ frs outer, H b = none
  hok : HOk P w H s.heap
  bare : AllBare s.gens
/-- a call's end -/
def CE (outer : List Env) (P : Program) (w : World) (H : Hp) (s : Shared) (Q : VK) (u : Value) (s' : Shared) : Prop :=
  ∃ v H', s'.os = s.os ∧ AllBare s'.gens ∧ Un (frs outer) [] H H' s.heap s'.heap ∧ HOk P w H' s'.heap ∧ RelV v u ∧ Q v H'
def CR (CX : CXT) (outer : List Env) (P : Program) (w : World) (H : Hp) (s : Shared) (Q : VK) (E : XK) (r : Result) (s' : Shared) : Prop :=
  match r with
  | .ok (.ret u) => CE outer P w H s Q u s'
  | .ok _ => False
  | .error e => CX outer H s E e s'
structure FnOk (P : Program) (w : World) (K : PySem.W.Frag) (mg : Str → Option Value) (base : Heap) (CX : CXT) (k : Nat) (f : Addr) (fd : FuncData) (ps : List Str) (sp : Sp) : Prop where
  len : ∀ vs H Q E, sp vs H Q E → vs.length = ps.length
  run : ∀ (A : Around) (outer : List Env) (s : Shared) (H : Hp) (args : Args) (us : List Value) (vs : List V) (Q : VK) (E : XK), Room k A → Env0 P w K mg base A outer s H → BindsTo s fd args (ps.zip us) → Vals vs us → sp vs H Q E →
    codeAny (model P w) A (.call (.ref f) args) (CR CX outer P w H s Q E) s
theorem FnOk.mono {P : Program} {w : World} {K : PySem.W.Frag} {mg : Str → Option Value} {base : Heap} {CX : CXT} {j k : Nat} {f : Addr} {fd : FuncData} {ps : List Str} {sp : Sp} (F : FnOk P w K mg base CX j f fd ps sp) (h : j ≤ k) :
    FnOk P w K mg base CX k f fd ps sp := ⟨F.len, fun A outer s H args us vs Q E hr => F.run A outer s H args us vs Q E (hr.mono h)⟩
/-- a weaker promise -/
theorem FnOk.imp {P : Program} {w : World} {K : PySem.W.Frag} {mg : Str → Option Value} {base : Heap} {CX : CXT} {k : Nat} {f : Addr} {fd : FuncData} {ps : List Str} {sp sp' : Sp} (F : FnOk P w K mg base CX k f fd ps sp)
    (h : ∀ vs H Q E, sp' vs H Q E → sp vs H Q E) : FnOk P w K mg base CX k f fd ps sp' :=
  ⟨fun vs H Q E q => F.len vs H Q E (h _ _ _ _ q), fun A outer s H args us vs Q E hr he hb hv hs => F.run A outer s H args us vs Q E hr he hb hv (h _ _ _ _ hs)⟩

section
variable {X : Cx} {pins : List (Addr × Obj)} {σ : St} {H : Hp} {s s' : Shared}
/-- from a body: what a callee wants -/
theorem Inv.env0 (I : Inv X pins σ H s) : Env0 X.prog X.w X.K X.mg X.base X.A X.stack s H :=
  ⟨I.ok.frames, I.ok.mod, I.bs, Nat.le_trans I.ok.bsz I.sz, I.stack, I.stkFree, I.hok, I.bare⟩
/-- behind a call -/
theorem Inv.after {Q : VK} {u : Value} (I : Inv X pins σ H s) (h : CE X.stack X.prog X.w H s Q u s') : EP X pins σ Q u s' := by
  obtain ⟨v, H', os, bare, un, hok, r, q⟩ := h
  obtain ⟨hh, g, d, t, os'⟩ := s'
  obtain rfl : os' = s.os := os
  exact ⟨v, H', I.call (h' := hh) (g' := g) (d' := d) (t' := t) (ch := []) un hok bare (fun b z => absurd z (by simp)), r, q⟩
end

/-! ### calls -/
/-- f(..): the written arguments, then the defaults dvs; E: what is wanted of an exception -/
def tCall (sp : Sp) (dvs : List V) (E : XK) (t : TA) : TE := fun σ H Q => t σ H fun vs H1 => sp (vs ++ dvs) H1 Q E
/-- how the parameters are bound: us the positional arguments, kw the keywords' values by name, ds the defaults that fill up -/
def Binds (K : PySem.W.Frag) (fd : FuncData) (ps : List Str) (ds : List Value) : Prop :=
  ∀ (s : Shared) (us : List Value), K.In s.heap → (us ++ ds).length = ps.length → BindsTo s fd ⟨us, []⟩ (ps.zip (us ++ ds))
/-- every parameter is given -/
theorem Binds.all {K : PySem.W.Frag} {fd : FuncData} {ps : List Str} (h : ∀ us : List Value, us.length = ps.length → bindArgs fd ⟨us, []⟩ = pure (ps.zip us)) : Binds K fd ps [] := fun s us _ hl => by
  rw [List.append_nil] at hl ⊢
  exact .of_eq (h us hl)

/-- an exception of a callee reaches what this body wants of exceptions -/
def Passes (CX : CXT) (X : Cx) (E : XK) : Prop := ∀ (pins : List (Addr × Obj)) (σ : St) (H : Hp) (s : Shared) (e : Value) (s' : Shared), Inv X pins σ H s → CX X.stack H s E e s' → X.xe e s'

section
variable {X : Cx} {CX : CXT} {k : Nat} {f C : Addr} {fd : FuncData} {ps : List Str} {sp : Sp} {dvs : List V} {ds : List Value} {E : XK} {x m : Str} {p pos apos : Pos} {e o : Expr} {es : List Expr} {ta : TE} {t : TA}

/-- the callee runs -/
theorem run_fn {pins : List (Addr × Obj)} {σ : St} {H : Hp} {s : Shared} {Q : VK} {us : List Value} {vs : List V} (F : FnOk X.prog X.w X.K X.mg X.base CX k f fd ps sp) (hr : Room k X.A) (hb : Binds X.K fd ps ds) (hd : Vals dvs ds) (hx : Passes CX X E)
    (I : Inv X pins σ H s) (r : Vals vs us) (h : sp (vs ++ dvs) H Q E) : wpAny (model X.prog X.w) X.A (call (.ref f) us) (EP X pins σ Q) X.xe s := by
  have r2 : Vals (vs ++ dvs) (us ++ ds) := r.append hd
  have hl : (us ++ ds).length = ps.length := by rw [← r2.length]; exact F.len _ _ _ _ h
  refine wpAny_call (codeAny_mono (F.run X.A X.stack s H ⟨us, []⟩ (us ++ ds) (vs ++ dvs) Q E hr I.env0 (hb s us I.kIn hl) r2 h) fun r s' hq => ?_)
  cases r with
  | error e => exact hx pins σ H s e s' I hq
  | ok fl =>
    cases fl with
    | ret u => exact I.after hq
    | next => exact False.elim hq
    | brk => exact False.elim hq
    | cont => exact False.elim hq

theorem pe_call (F : FnOk X.prog X.w X.K X.mg X.base CX k f fd ps sp) (hr : Room k X.A) (hg : Gl X x) (hm : X.mg x = some (.ref f)) (hk : PySem.W.keepIn X.K (.ref f) = true) (hb : Binds X.K fd ps ds) (hd : Vals dvs ds) (hx : Passes CX X E)
    (ha : PA X (e :: es) t) (hdb : (x == ("__debug__" : Str)) = false := by decide) (he : starEach (e :: es) X.env = (false, eval e X.env) :: starEach es X.env := by rfl) (hpl : (backTo pos (starEach es X.env)).any (·.1) = false := by rfl) :
    PE X (.Call (.Name x p) (e :: es) [] pos) (tCall sp dvs E t) := by
  intro pins s σ H Q I h
  refine wpAny_Call_Name_kw (ld_glob I hg hm ?_ hdb)
  refine PySem.W.callWith_K (h₀ := X.base) I.ok.mod.kin hk (thn (ha pos pins s σ H _ I h) fun us s1 ⟨vs, H1, I1, r, q⟩ => ⟨I1.kIn, ?_⟩) he hpl
  exact run_fn F hr hb hd hx I1 r q
/-- what a class must have to be made -/
structure Mk (K : PySem.W.Frag) (C f : Addr) : Prop where
  makes : PySem.W.makesIn K C = true
  init : PySem.W.findIn K (.ref C) "__init__" = some (some (.ref f))
  fn : PySem.W.isFn K (.ref f) = true
  kp : PySem.W.keepIn K (.ref C) = true

end

/-! ### keywords -/
section
variable {X : Cx} {CX : CXT} {k : Nat} {f C : Addr} {fd : FuncData} {ps ks : List Str} {sp : Sp} {E : XK} {x m : Str} {p pos apos kpos : Pos} {e o : Expr} {es : List Expr} {kws : List Keyword} {te ta : TE} {t tk : TA} {nm : Option Str}
/-- how a call with keywords binds: g puts the positional values us and the keywords' values ws (names ks) in the parameters' order, defaults among them -/
structure KBinds (K : PySem.W.Frag) (fd : FuncData) (ps ks : List Str) (g : List Value → List Value → List Value) (gV : List V → List V → List V) : Prop where
  to : ∀ (s : Shared) (us ws : List Value), K.In s.heap → (g us ws).length = ps.length → BindsTo s fd ⟨us, ks.zip ws⟩ (ps.zip (g us ws))
  rel : ∀ {vs : List V} {us : List Value} {zs : List V} {ws : List Value}, Vals vs us → Vals zs ws → Vals (gV vs zs) (g us ws)
variable {g : List Value → List Value → List Value} {gV : List V → List V → List V}
end

/-! ### a def's body keeps its promise -/
/-- names: the parameters first -/
structure FnScope (N P : List Str) (sc : Scope) : Prop where
  kind : sc.kind = .function
  co : sc.isCoroutine = false
  gen : sc.isGenerator = false
  nd : N.Nodup
  pre : N.take P.length = P
  par : ∀ x ∈ P, sc.names.lookup x = some .local ∨ sc.names.lookup x = some .cell
  nofree : ∀ y ∈ sc.names, y.2 ≠ .free

theorem bindL_out {kindOf : Str → Option NameKind} {x : Str} : ∀ {binds : List (Str × Value)} {m : Str → Option Value}, (∀ v, (x, v) ∉ binds) → bindL kindOf binds m x = m x
  | [], _, _ => rfl
  | (n, v) :: r, m, h => by
    unfold bindL
    rw [bindL_out fun w hw => h w (List.mem_cons_of_mem _ hw)]
    split
    · have : x ≠ n := by rintro rfl; exact h v List.mem_cons_self
      simp [this]
    · rfl
theorem bindC_out {kindOf : Str → Option NameKind} {x : Str} : ∀ {binds : List (Str × Value)} {m : Str → Option Value}, (∀ v, (x, v) ∉ binds) → bindC kindOf binds m x = m x
  | [], _, _ => rfl
  | (n, v) :: r, m, h => by
    unfold bindC
    rw [bindC_out fun w hw => h w (List.mem_cons_of_mem _ hw)]
    split
    · rfl
    · have : x ≠ n := by rintro rfl; exact h v List.mem_cons_self
      simp [this]
theorem bindL_get {kindOf : Str → Option NameKind} {x : Str} {v : Value} : ∀ {P : List Str} {vs : List Value} {i : Nat} {m : Str → Option Value}, P.Nodup → P[i]? = some x → vs[i]? = some v → kindOf x = some .local →
    bindL kindOf (P.zip vs) m x = some v
  | [], _, _, _, _, h, _, _ => by simp at h
  | _ :: _, [], _, _, _, _, h, _ => by simp at h
  | p :: P, w :: vs, 0, m, nd, h1, h2, hk => by
    simp at h1 h2; subst h1; subst h2
    show bindL kindOf ((p, w) :: P.zip vs) m p = _
    unfold bindL
    rw [bindL_out fun v hv => (List.nodup_cons.mp nd).1 (List.of_mem_zip hv).1, if_pos hk]
    simp
  | p :: P, w :: vs, i + 1, m, nd, h1, h2, hk => by
    show bindL kindOf ((p, w) :: P.zip vs) m x = _
    unfold bindL
    exact bindL_get (i := i) (List.nodup_cons.mp nd).2 (by simpa using h1) (by simpa using h2) hk
theorem bindC_get {kindOf : Str → Option NameKind} {x : Str} {v : Value} : ∀ {P : List Str} {vs : List Value} {i : Nat} {m : Str → Option Value}, P.Nodup → P[i]? = some x → vs[i]? = some v → kindOf x ≠ some .local →
    bindC kindOf (P.zip vs) m x = some v
  | [], _, _, _, _, h, _, _ => by simp at h
  | _ :: _, [], _, _, _, _, h, _ => by simp at h
  | p :: P, w :: vs, 0, m, nd, h1, h2, hk => by
    simp at h1 h2; subst h1; subst h2
    show bindC kindOf ((p, w) :: P.zip vs) m p = _
    unfold bindC
    rw [bindC_out fun v hv => (List.nodup_cons.mp nd).1 (List.of_mem_zip hv).1, if_neg hk]
    simp
  | p :: P, w :: vs, i + 1, m, nd, h1, h2, hk => by
    show bindC kindOf ((p, w) :: P.zip vs) m x = _
    unfold bindC
    exact bindC_get (i := i) (List.nodup_cons.mp nd).2 (by simpa using h1) (by simpa using h2) hk

/-- the names' values at the entry -/
def start (N : List Str) (vs : List V) : St := vs.map some ++ List.replicate (N.length - vs.length) none

/-- the context of a def's body, at its entry; an exception leaves the frame, then lies as CX says -/
def cxOf (CX : CXT) (P : Program) (w : World) (K : PySem.W.Frag) (mg : Str → Option Value) (base : Heap) (N : List Str) (qual : Str) (scope : Scope) (f : Addr) (cd : Value) (A : Around) (outer : List Env) (s : Shared) (H : Hp) (E : XK) : Cx where
  prog := P
  w := w
  K := K
  mg := mg
  base := base
  A := A.deeper (envOfC qual scope s.heap.objs.size f cd)
  N := N
  s₀ := s
  H₀ := H
  env := envOfC qual scope s.heap.objs.size f cd
  outer := outer
  stack := envOfC qual scope s.heap.objs.size f cd :: outer
  ex := []
  calm := true
  fn := fun _ => true
  pn := []
  xe := fun e s' => wpAny (model P w) (A.deeper (envOfC qual scope s.heap.objs.size f cd)) (leaving (envOfC qual scope s.heap.objs.size f cd) e) (fun _ s'' => CX outer H s E e s'') (fun e' s'' => CX outer H s E e' s'') s'

theorem cell_has {sc : Scope} {n : Nat} {x : Str} (h : sc.names.lookup x = some .cell) : ∃ c, (cellsFrom n sc.names []).lookup x = some c := by
  have q := PySem.W.cellsFrom_some sc.names n [] (.inl h)
  exact Option.isSome_iff_exists.mp q

theorem inv_start {CX : CXT} {P : Program} {w : World} {K : PySem.W.Frag} {mg : Str → Option Value} {base : Heap} {N ps : List Str} {qual : Str} {scope : Scope} {f : Addr} {cd : Value} {A : Around} {outer : List Env} {s s1 : Shared} {H : Hp} {E : XK} {us : List Value} {vs : List V}
    (S : FnScope N ps scope) (hd : A.handled = none) (e0 : Env0 P w K mg base A outer s H) (hl : vs.length = ps.length) (r : Vals vs us)
    (x : InCallC s s.heap.objs.size (bindL (envOfC qual scope s.heap.objs.size f cd).kindOf (ps.zip us) fun _ => none) (cellsFrom (s.heap.objs.size + 1) scope.names []) (bindC (envOfC qual scope s.heap.objs.size f cd).kindOf (ps.zip us) fun _ => none) s1) :
    Inv (cxOf CX P w K mg base N qual scope f cd A outer s H E) [] (start N vs) H s1 := by
  have hpl : ps.length ≤ N.length := by have := congrArg List.length S.pre; rw [List.length_take] at this; omega
  obtain ⟨h1, tk, rfl, hk⟩ := x.done
  have noA : ∀ b : Addr, b ∉ (cxOf CX P w K mg base N qual scope f cd A outer s H E).ex := fun b z => absurd (show b ∈ ([] : List Addr) from z) (by simp)
  refine ⟨⟨e0.mod, S.kind, rfl, rfl, Nat.le_refl _, fun y z c h1 h2 => ?_, fun y hy => ?_, fun y c _ h => ?_, fun _ => hd, Around.frames_deeper e0.frames, .inr ⟨rfl, rfl⟩, fun b z => absurd z (noA b), e0.bs, e0.bsz, fun b _ _ => noA b, fun b z => absurd z (noA b), e0.funs, e0.frf⟩,
    rfl, e0.bare, Un.kept hk, ⟨_, x.toInCall.ns, fun i y v h1 h2 h3 => ?_⟩, fun y c h => ⟨_, x.cell y c h⟩, e0.hok.fresh (Nat.le_refl _), fun y c h => ?_, fun p hp => absurd (show p ∈ ([] : List (Addr × Obj)) from hp) (by simp), e0.hok.kept hk, ?_⟩
  · exact name_of_addr x.apart (PySem.mem_of_lookup h1) (PySem.mem_of_lookup h2)
  · have hy : scope.names.lookup y = some .cell ∨ scope.names.lookup y = some .free := hy
    rcases hy with hy | hy
    · exact cell_has hy
    · exact absurd rfl (S.nofree _ (PySem.mem_of_lookup hy))
  · exact Nat.le_of_lt (x.above y c (PySem.mem_of_lookup h))
  · have hi : i < vs.length := by
      unfold start at h2
      by_cases hi : i < vs.length
      · exact hi
      · rw [List.getElem?_append_right (by simpa using hi)] at h2
        rw [List.getElem?_replicate] at h2
        split at h2 <;> cases h2
    have ha : vs[i]? = some v := by
      unfold start at h2
      rw [List.getElem?_append_left (by simpa using hi), List.getElem?_map] at h2
      cases e : vs[i]? with
      | none => rw [e] at h2; cases h2
      | some a => rw [e] at h2; cases h2; rfl
    obtain ⟨u, hu, rv⟩ := r.get ha
    have hp : ps[i]? = some y := by
      rw [← S.pre, List.getElem?_take_of_lt (by omega)]; exact h1
    have ndP : ps.Nodup := by rw [← S.pre]; exact S.nd.sublist (List.take_sublist _ _)
    refine ⟨u, rv, ?_⟩
    rcases S.par y (List.mem_of_getElem? hp) with k | k
    · exact .inl ⟨k, bindL_get ndP hp hu k⟩
    · obtain ⟨c, e⟩ := cell_has (n := s.heap.objs.size + 1) k
      refine .inr ⟨.inl k, c, e, ?_⟩
      have q := x.cell y c e
      rw [bindC_get ndP hp hu (by show scope.names.lookup y ≠ _; rw [k]; decide)] at q
      exact q
  · exact e0.hok.fresh (Nat.le_of_lt (x.above y c (PySem.mem_of_lookup h)))
  · unfold start
    show _ = N.length
    rw [List.length_append, List.length_map, List.length_replicate]
    omega

/-- THE RULE: a def (or a method) of the text, by its body. The body's reading t is chosen for each entry; it is run at the parameters' values -/
theorem fn_of {CX : CXT} {P : Program} {w : World} {K : PySem.W.Frag} {mg : Str → Option Value} {base : Heap} {k : Nat} {f : Addr} {name qual : Str} {params : Arguments} {body : List Stmt} {scope : Scope} {dV kV doc pm cdv ct oc : Value} {an od : Option Addr}
    {osl : Array (Option Value)} {N ps : List Str} {sp : Sp} (lk : K.lookup f = some ⟨oc, od, .func (PySem.W.fnOf name qual params body scope dV kV doc pm an cdv ct), osl⟩) (hcd : PySem.W.codeIn K cdv qual = true) (S : FnScope N ps scope)
    (len : ∀ vs H Q E, sp vs H Q E → vs.length = ps.length)
    (hbody : ∀ (A : Around) (outer : List Env) (s : Shared) (H : Hp) (vs : List V) (Q : VK) (E : XK), Room k (A.deeper (envOfC qual scope s.heap.objs.size f cdv)) → sp vs H Q E →
      ∃ t, PSs (cxOf CX P w K mg base N qual scope f cdv A outer s H E) body t ∧ t { nx := fun _ H' => Q .non H', rt := Q } (start N vs) H) :
    FnOk P w K mg base CX (k + 1) f (PySem.W.fnOf name qual params body scope dV kV doc pm an cdv ct) ps sp := by
  refine ⟨len, fun A outer s H args us vs Q E hr e0 hb r hsp => ?_⟩
  have hl := len _ _ _ _ hsp
  have KX : K.In s.heap := e0.mod.kin.keeps fun b o e => (e0.bs b o e).1
  have lim : s.heap.NoLimit := e0.mod.nolimit.keeps fun b o e => (e0.bs b o e).1
  have hkind : ∀ y ∈ ps.zip us, scope.names.lookup y.1 = some .local ∨ (scope.names.lookup y.1 = some .cell ∧ ((cellsFrom (s.heap.objs.size + 1) scope.names []).lookup y.1).isSome = true) := fun ⟨n, v⟩ hy => by
    rcases S.par n (List.of_mem_zip hy).1 with q | q
    · exact .inl q
    · exact .inr ⟨q, PySem.W.cellsFrom_some _ _ _ (.inl q)⟩
  refine codeAny_call_function hr.depth (KX _ _ lk) rfl S.co S.gen rfl (PySem.W.codeRec_of KX hcd) (hb _ _ _ _ ?_)
  refine wpAny_newFunctionEnv_cells S.kind hkind fun env he s1 x => ?_
  subst he
  refine ⟨lim.keeps x.toInCall.keep, codeAny_func ?_⟩
  obtain ⟨t, ht, hq⟩ := hbody A outer s H vs Q E (hr.deeper _) hsp
  have I : Inv (cxOf CX P w K mg base N qual scope f cdv A outer s H E) [] (start N vs) H s1 := inv_start S hr.hd e0 hl r x
  refine wpAny_mono (ht [] s1 (start N vs) H _ I hq) (fun fl s' hs => ?_) fun e s' hs => hs
  have fin : ∀ {σ' : St} {H' : Hp} {v : V} {u : Value}, Inv (cxOf CX P w K mg base N qual scope f cdv A outer s H E) [] σ' H' s' → RelV v u → Q v H' → CE outer P w H s Q u s' :=
    fun {σ' H' v u} J rv q => ⟨v, H', J.os, J.bare, J.base, J.hok, rv, q⟩
  cases fl with
  | ret u =>
    obtain ⟨v, σ', H', J, rv, q⟩ := hs
    exact fin J rv q
  | next =>
    obtain ⟨σ', H', J, q⟩ := hs
    exact fin (v := V.non) (u := Value.none) J rfl q
  | brk =>
    obtain ⟨_, _, _, q⟩ := hs
    exact False.elim q
  | cont =>
    obtain ⟨_, _, _, q⟩ := hs
    exact False.elim q
end L2

namespace L2
open PySem PySem.Spec PyProof.Rows
section
variable {X : Cx} {x : Str} {p pos : Pos} {e : Expr} {es : List Expr} {t : TA} {id T : String} {r : List V → Hp → VK → Prop}

def tCB (r : List V → Hp → VK → Prop) (t : TA) : TE := fun σ H Q => t σ H fun vs H1 => r vs H1 Q
/-- f(e, ..), f a built-in function -/
theorem pe_callB (hc : CallR X (.builtin id) r) (hg : Gl X x) (hm : X.mg x = none) (hv : bootBuiltins x = some (.builtin id)) (ha : PA X (e :: es) t) (hn : x ≠ "__name__" := by decide) (hdb : (x == ("__debug__" : Str)) = false := by decide)
    (he : starEach (e :: es) X.env = (false, eval e X.env) :: starEach es X.env := by rfl) (hpl : (backTo pos (starEach es X.env)).any (·.1) = false := by rfl) : PE X (.Call (.Name x p) (e :: es) [] pos) (tCB r t) := by
  intro pins s σ H Q I h
  refine wpAny_Call_Name_kw (ld_blt I hg hm hv ?_ hn hdb)
  exact PyProof.Rows.callWith_builtin1 (thn (ha pos pins s σ H _ I h) fun us s1 ⟨vs, H1, I1, r1, q1⟩ => hc pins s1 σ H1 vs us Q I1 r1 q1) he hpl
/-- T(e, ..), T a built-in type -/
theorem pe_callTy (hc : CallR X (.type T) r) (hg : Gl X x) (hm : X.mg x = none) (hv : bootBuiltins x = some (.type T)) (ha : PA X (e :: es) t) (hn : x ≠ "__name__" := by decide) (hdb : (x == ("__debug__" : Str)) = false := by decide)
    (he : starEach (e :: es) X.env = (false, eval e X.env) :: starEach es X.env := by rfl) (hpl : (backTo pos (starEach es X.env)).any (·.1) = false := by rfl) : PE X (.Call (.Name x p) (e :: es) [] pos) (tCB r t) := by
  intro pins s σ H Q I h
  refine wpAny_Call_Name_kw (ld_blt I hg hm hv ?_ hn hdb)
  exact PyProof.Rows.callWith_type1 (thn (ha pos pins s σ H _ I h) fun us s1 ⟨vs, H1, I1, r1, q1⟩ => hc pins s1 σ H1 vs us Q I1 r1 q1) he hpl
end
end L2

namespace HT
open PySem PyProof.Rows

section
open PySem.SeqAt
open PySem.AutoSeq1 (wpAny_loadPart')
open PySem.MeetsSeq PySem.MeetsSeq2 PySem.MeetsSeq3

end

section
variable {prog : Program} {w : World} {A : Around} {E : Value → Shared → Prop} {s : Shared}

/-! ### t[a:b], not the whole -/
/-- a slice's bound as a place among n (d where it is left out) -/
def sIx (n d : Nat) : Option Int → Nat
  | none => d
  | some v => if v < 0 then (v + (n : Int)).toNat else min v.toNat n
theorem sIx_none (n d : Nat) : sIx n d none = d := rfl
theorem sIx_nat (n d k : Nat) : sIx n d (some (k : Int)) = min k n := by
  show (if (k : Int) < 0 then ((k : Int) + (n : Int)).toNat else min (k : Int).toNat n) = min k n
  rw [if_neg (by omega), Int.toNat_natCast]
end
end HT

namespace L2
open PySem PySem.Spec PyProof.Rows

/-! ### the parts of a slice -/
abbrev TO := St → Hp → (Option Int → Hp → Prop) → Prop
/-- a slice's part (left out, or an int) -/
def PO (X : Cx) (e : Option Expr) (t : TO) : Prop :=
  ∀ (pins : List (Addr × Obj)) (s : Shared) (σ : St) (H : Hp) (Q : Option Int → Hp → Prop), Inv X pins σ H s → t σ H Q →
    wpAny (model X.prog X.w) X.A (evalPart e X.env) (fun u s' => ∃ o H', Inv X pins σ H' s' ∧ IsPart u o ∧ Q o H') X.xe s
def tNoPart : TO := fun _ H Q => Q none H
def tPart (t : TE) : TO := fun σ H Q => t σ H fun x H1 => ∃ i, x = .int i ∧ Q (some i) H1

theorem intsAre_of {ns : List Int} : ∀ {us : List Value}, Vals (ns.map V.int) us → IntsAre us ns := by
  induction ns with
  | nil => intro us r; rw [List.map_nil] at r; cases r; exact .nil
  | cons n ns ih =>
    intro us r
    rw [List.map_cons] at r
    cases r with
    | cons r1 r2 =>
      obtain ⟨t, e⟩ := r1
      subst e
      exact .cons n t (ih r2)

section
variable {X : Cx} {e : Expr} {te : TE} {lo hi : Option Expr} {tl th : TO} {pos p2 : Pos}

theorem po_none : PO X none tNoPart := by
  intro pins s σ H Q I h
  rw [evalPart_none]
  exact wpAny_pure ⟨none, H, I, .none, h⟩
theorem po_some (h : PE X e te) : PO X (some e) (tPart te) := by
  intro pins s σ H Q I hw
  rw [evalPart_some]
  refine thn (h pins s σ H _ I hw) fun u s1 ⟨x, H1, I1, r1, q1⟩ => ?_
  obtain ⟨i, rfl, q⟩ := q1
  obtain ⟨t, rfl⟩ := r1
  exact ⟨some i, H1, I1, .int i t, q⟩

/-- what a slice of a value is, by values: the slice object stands at sl -/
def SlR (X : Cx) (r : V → Option Int → Option Int → Hp → VK → Prop) : Prop :=
  ∀ (pins : List (Addr × Obj)) (s : Shared) (σ : St) (H : Hp) (x : V) (v vl vu : Value) (lo hi : Option Int) (sl : Addr) (Q : VK), Inv X pins σ H s → RelV x v → s.heap.IsSliceOf sl vl vu .none → IsPart vl lo → IsPart vu hi → r x lo hi H Q →
    ∃ T id, typeLookup (.type T) "__getitem__" = pure (some (.builtin id)) ∧ s.TypeIs v T ∧ wpAny (model X.prog X.w) X.A (getItem v (.ref sl)) (EP X pins σ Q) X.xe s
theorem SlR.or {r r' : V → Option Int → Option Int → Hp → VK → Prop} (h : SlR X r) (h' : SlR X r') : SlR X (fun x lo hi H Q => r x lo hi H Q ∨ r' x lo hi H Q) := by
  intro pins s σ H x v vl vu lo hi sl Q I rx hs pl pu q
  rcases q with q | q
  · exact h pins s σ H x v vl vu lo hi sl Q I rx hs pl pu q
  · exact h' pins s σ H x v vl vu lo hi sl Q I rx hs pl pu q
def tSl (r : V → Option Int → Option Int → Hp → VK → Prop) (te : TE) (tl th : TO) : TE := fun σ H Q => te σ H fun x H1 => tl σ H1 fun l H2 => th σ H2 fun u H3 => r x l u H3 Q
/-- a[lo:hi], any a -/
theorem pe_slice {r : V → Option Int → Option Int → Hp → VK → Prop} (hr : SlR X r) (he : PE X e te) (hl : PO X lo tl) (hu : PO X hi th) : PE X (.Subscript e (.Slice lo hi none p2) pos) (tSl r te tl th) := by
  intro pins s σ H Q I h
  refine Subscript_ (thn (he pins s σ H _ I h) fun v s1 ⟨x, H1, I1, r1, q1⟩ => ?_)
  refine wpAny_Slice (thn (hl pins s1 σ H1 _ I1 q1) fun vl s2 ⟨l, H2, I2, pl, q2⟩ => thn (hu pins s2 σ H2 _ I2 q2) fun vu s3 ⟨u, H3, I3, pu, q3⟩ => ?_)
  rw [evalPart_none]
  refine wpAny_pure ?_
  have I4 : Inv X pins σ H3 { s3 with heap := s3.heap.push { cls := .type "slice", data := .fields #[vl, vu, .none] } } := I3.kept (t' := s3.toks) fun b ob q => Heap.get?_push_of_some _ q
  obtain ⟨T, id, hT, ht, hg⟩ := hr pins { s3 with heap := s3.heap.push { cls := .type "slice", data := .fields #[vl, vu, .none] } } σ H3 x v vl vu l u s3.heap.objs.size Q I4 r1 (Heap.IsSliceOf.new ..) pl pu q3
  show wpAny (model X.prog X.w) X.A (subscriptTail e (.Slice lo hi none p2) v (.ref s3.heap.objs.size)) (EP X pins σ Q) X.xe { s3 with heap := s3.heap.push { cls := .type "slice", data := .fields #[vl, vu, .none] } }
  exact tail_any (ops := [.ref s3.heap.objs.size, v]) ht hT hg (by with_unfolding_all rfl)

/-- the items of xs[lo:hi] -/
def cutV (xs : List V) (lo hi : Option Int) : List V := (xs.drop (HT.sIx xs.length 0 lo)).take (HT.sIx xs.length xs.length hi - HT.sIx xs.length 0 lo)
theorem cutV_length (xs : List V) (lo hi : Option Int) : (cutV xs lo hi).length ≤ xs.length := by
  unfold cutV
  rw [List.length_take, List.length_drop]
  omega
/-! ### t < u, t + u -/
end
end L2

namespace L2
open PySem PySem.Spec PyProof.Rows

/-! ### places -/
/-- the place that an index of any sign means -/
def ixN (n : Nat) (i : Int) : Option Nat := if 0 ≤ i then (if i < n then some i.toNat else none) else if -(n : Int) ≤ i then some (i + n).toNat else none
def atI {α : Type} (xs : List α) (i : Int) : Option α := (ixN xs.length i).bind fun j => xs[j]?
theorem ixN_seq {n : Nat} {i : Int} {j : Nat} (h : ixN n i = some j) : seqIndex? i n = some j ∧ j < n ∧ -(n : Int) ≤ i ∧ i < n := by
  unfold ixN at h
  by_cases h0 : 0 ≤ i
  · rw [if_pos h0] at h
    by_cases h1 : i < n
    · rw [if_pos h1] at h
      have e : i.toNat = j := Option.some.inj h
      exact ⟨by rw [seqIndex_of h0 h1, e], by omega, by omega, h1⟩
    · rw [if_neg h1] at h; cases h
  · rw [if_neg h0] at h
    by_cases h1 : -(n : Int) ≤ i
    · rw [if_pos h1] at h
      have e : (i + n).toNat = j := Option.some.inj h
      exact ⟨by rw [seqIndex_neg (by omega) h1, e], by omega, h1, by omega⟩
    · rw [if_neg h1] at h; cases h
theorem atI_get {α : Type} {xs : List α} {i : Int} {v : α} (h : atI xs i = some v) : ∃ j, seqIndex? i xs.length = some j ∧ xs[j]? = some v ∧ j < xs.length ∧ -(xs.length : Int) ≤ i ∧ i < xs.length := by
  unfold atI at h
  cases e : ixN xs.length i with
  | none => rw [e] at h; cases h
  | some j =>
    rw [e] at h
    obtain ⟨h1, h2, h3, h4⟩ := ixN_seq e
    exact ⟨j, h1, h, h2, h3, h4⟩
theorem atI_nat {α : Type} {xs : List α} {j : Nat} {v : α} (h : xs[j]? = some v) : atI xs (j : Int) = some v := by
  have hj : j < xs.length := (List.getElem?_eq_some_iff.mp h).1
  have e : ixN xs.length (j : Int) = some j := by
    unfold ixN
    rw [if_pos (by omega), if_pos (by omega)]; simp
  unfold atI; rw [e]; exact h
/-! ### what may be subscripted -/
/-- what stands as an index of a plain subscript -/
def PlainIx (b : Expr) : Prop := ∀ o i, subscripted b false o i = operate [o, i] (getItem o i)
/-- a subscript by values -/
def IxR (X : Cx) (r : R2) : Prop :=
  ∀ (value slice : Expr) (pins : List (Addr × Obj)) (s : Shared) (σ : St) (H : Hp) (x y : V) (v u : Value) (Q : VK), Inv X pins σ H s → RelV x v → RelV y u → r x y H Q →
    subscripted slice false v u = operate [v, u] (getItem v u) → wpAny (model X.prog X.w) X.A (subscriptTail value slice v u) (EP X pins σ Q) X.xe s
/-- a call of a builtin's method by values: the receiver, the arguments -/
def MtR (X : Cx) (id : String) (r : V → List V → Hp → VK → Prop) : Prop :=
  ∀ (pins : List (Addr × Obj)) (s : Shared) (σ : St) (H : Hp) (x : V) (xs : List V) (v : Value) (us : List Value) (Q : VK), Inv X pins σ H s → RelV x v → Vals xs us → r x xs H Q →
    wpAny (model X.prog X.w) X.A (call (.builtin id) (v :: us)) (EP X pins σ Q) X.xe s
section
variable {X : Cx} {a b : Expr} {ta tb : TE} {pos : Pos}
theorem IxR.or {r r' : R2} (h : IxR X r) (h' : IxR X r') : IxR X (fun x y H Q => r x y H Q ∨ r' x y H Q) := by
  intro value slice pins s σ H x y v u Q I rx ry q hs
  rcases q with q | q
  · exact h value slice pins s σ H x y v u Q I rx ry q hs
  · exact h' value slice pins s σ H x y v u Q I rx ry q hs
theorem MtR.or {id : String} {r r' : V → List V → Hp → VK → Prop} (h : MtR X id r) (h' : MtR X id r') : MtR X id (fun x xs H Q => r x xs H Q ∨ r' x xs H Q) := by
  intro pins s σ H x xs v us Q I rx rs q
  rcases q with q | q
  · exact h pins s σ H x xs v us Q I rx rs q
  · exact h' pins s σ H x xs v us Q I rx rs q
/-- a[b] -/
theorem pe_ix {r : R2} (hr : IxR X r) (ha : PE X a ta) (hb : PE X b tb) (hs : PlainIx b) : PE X (.Subscript a b pos) (tOp r ta tb) := by
  intro pins s σ H Q I h
  exact Subscript_ (binT ha hb I h fun v u s2 x y H2 I2 rx ry q => hr a b pins s2 σ H2 x y v u Q I2 rx ry q (hs _ _))

def rIxL (K : PySem.W.Frag) : R2 := fun x y H Q => ∃ p xs i v, x = .ref p ∧ y = .int i ∧ SqL K H p xs ∧ atI xs i = some v ∧ Q v H
def rIxT (K : PySem.W.Frag) : R2 := fun x y H Q => ∃ p xs i v, x = .ref p ∧ y = .int i ∧ SqT K H p xs ∧ atI xs i = some v ∧ Q v H
theorem ix_list : IxR X (rIxL X.K) := by
  intro value slice pins s σ H x y v u Q I rx ry h hs
  obtain ⟨p, xs, i, z, rfl, rfl, hq, he, q⟩ := h
  cases rx
  obtain ⟨t, rfl⟩ := ry
  obtain ⟨its, r, pl, hz⟩ := I.list hq
  obtain ⟨j, h1, h2, h3, h4, h5⟩ := atI_get he
  obtain ⟨w, ew, rw'⟩ := r.get h2
  have hl := r.length
  have hn := line63
  have fin : EP X pins σ Q w s := ⟨z, H, I, rw', q⟩
  by_cases h0 : 0 ≤ i
  · have hj : i.toNat = j := by
      rw [seqIndex_of h0 h5] at h1
      exact Option.some.inj h1
    exact item_listR pl.isList h0 (by omega) (by rw [hj]; simpa using ew) fin hs
  · have hj : (i + (its.toArray.size : Int)).toNat = j := by
      rw [seqIndex_neg (by omega) h4] at h1
      rw [List.size_toArray, ← hl]
      exact Option.some.inj h1
    exact subscriptTail_builtinR (x := w) pl.isList.typeIs slot_list_getitem.lookup
      (wpAny_getItem_list_neg (Q := fun r s' => r = w ∧ EP X pins σ Q r s') pl.isList (by omega) (by rw [List.size_toArray] <;> omega) (by omega) (by rw [hj]; simpa using ew) ⟨rfl, fin⟩) hs
theorem ix_tup : IxR X (rIxT X.K) := by
  intro value slice pins s σ H x y v u Q I rx ry h hs
  obtain ⟨p, xs, i, z, rfl, rfl, hq, he, q⟩ := h
  cases rx
  obtain ⟨t, rfl⟩ := ry
  obtain ⟨its, r, pl, hz⟩ := I.tuple hq
  obtain ⟨j, h1, h2, h3, h4, h5⟩ := atI_get he
  obtain ⟨w, ew, rw'⟩ := r.get h2
  have hl := r.length
  have hn := line63
  have fin : EP X pins σ Q w s := ⟨z, H, I, rw', q⟩
  exact subscriptTail_builtinR (x := w) pl.typeIs slot_tuple_getitem.lookup
    (getItem_tuple (j := j) (Q := fun r s' => r = w ∧ EP X pins σ Q r s') pl (by omega) (by omega) (by rw [List.size_toArray, ← hl]; exact h1) (by simpa using ew) ⟨rfl, fin⟩) hs
/-! ### xs[i] = v, any sign -/
/-- the list's object behind a store -/
theorem mapSeq_set (its : List Value) (n j : Nat) (u : Value) : Obj.mapSeq (·.setIfInBounds j u) { cls := .type "list", data := .seq its.toArray n } = { cls := .type "list", data := .seq (its.set j u).toArray n } := by
  simp [Obj.mapSeq]
theorem Inv.lst {pins : List (Addr × Obj)} {σ : St} {H : Hp} {s : Shared} {p : Addr} {xs : List V} (I : Inv X pins σ H s) (h : H p = some (.lst xs)) :
    ∃ (its : List Value) (n : Nat), Vals xs its ∧ s.heap.get? p = some { cls := .type "list", data := .seq its.toArray n } ∧ xs.length ≤ sizeLine := by
  obtain ⟨z, its, n, r, e⟩ := I.hok p _ h
  exact ⟨its, n, r, e, z⟩
/-- the list at p is written by an update of its object -/
theorem Inv.lstUpd {pins : List (Addr × Obj)} {σ : St} {H : Hp} {s : Shared} {p : Addr} {xs ys : List V} {its its' : List Value} {n n' : Nat} {f : Obj → Obj} (I : Inv X pins σ H s) (h : H p = some (.lst xs))
    (ho : s.heap.get? p = some { cls := .type "list", data := .seq its.toArray n }) (hf : f { cls := .type "list", data := .seq its.toArray n } = { cls := .type "list", data := .seq its'.toArray n' }) (r : Vals ys its') (hz : ys.length ≤ sizeLine) (t : Nat) :
    Inv X pins σ (upd H p (.lst ys)) { s with heap := s.heap.update p f, toks := t } := by
  have e : (s.heap.update p f).get? p = some { cls := .type "list", data := .seq its'.toArray n' } := by
    rw [Heap.get?_update_self f ho (by rw [hf] <;> rfl), hf]
  refine I.write (x := p) (e := p) (by rw [h]; trivial) (.inl rfl) (fun b u hb q => (Heap.get?_update_other _ _ (Ne.symm hb)).trans q) ⟨_, e⟩ ?_
  exact ⟨hz, its', n', r, e⟩
def rSetL : V → V → V → Hp → (Hp → Prop) → Prop := fun o i v H Q => ∃ p xs k j, o = .ref p ∧ i = .int k ∧ H p = some (.lst xs) ∧ ixN xs.length k = some j ∧ Q (upd H p (.lst (xs.set j v)))
theorem set_list : PSet X rSetL := by
  intro pins s σ H o i v ov iv u Q I ro ri rv h
  obtain ⟨p, xs, k, j, rfl, rfl, hp, hj, q⟩ := h
  cases ro
  obtain ⟨t, rfl⟩ := ri
  obtain ⟨its, n, r, ho, hz⟩ := I.lst hp
  obtain ⟨h1, h2, h3, h4⟩ := ixN_seq hj
  have hl := r.length
  have hn := line63
  have I' : Inv X pins σ (upd H p (.lst (xs.set j v))) { s with heap := s.heap.update p (Obj.mapSeq (·.setIfInBounds j u)) } :=
    I.lstUpd hp ho (mapSeq_set its n j u) (r.set rv j) (by rw [List.length_set]; exact hz) s.toks
  by_cases h0 : 0 ≤ k
  · have hk : k.toNat = j := by
      rw [seqIndex_of h0 h4] at h1
      exact Option.some.inj h1
    exact PySem.W.ki_setAt ho h0 (by omega) (by rw [List.size_toArray, ← hl]; exact h4) (by rw [hk]; exact ⟨_, I', q⟩)
  · have hk : (k + (its.toArray.size : Int)).toNat = j := by
      rw [seqIndex_neg (by omega) h3] at h1
      rw [List.size_toArray, ← hl]
      exact Option.some.inj h1
    exact PySem.W.ki_setBack ho (by omega) (by rw [List.size_toArray, ← hl]; exact h3) (by omega) (by rw [hk]; exact ⟨_, I', q⟩)

/-! ### slices -/
theorem slice_bounds (lo hi : Option Int) (n : Nat) : (sliceBounds lo hi none n).1 = ((HT.sIx n 0 lo : Nat) : Int) ∧ (sliceBounds lo hi none n).2.1 = ((HT.sIx n n hi : Nat) : Int) ∧ (sliceBounds lo hi none n).2.2 = 1 := by
  refine ⟨?_, ?_, rfl⟩
  · cases lo with
    | none => simp [sliceBounds, HT.sIx]
    | some i =>
      simp only [sliceBounds, HT.sIx, Option.getD_none, show (1 : Int) > 0 by decide, if_true]
      by_cases h : i < 0
      · simp only [h, if_true] <;> omega
      · simp only [h, if_false] <;> omega
  · cases hi with
    | none => simp [sliceBounds, HT.sIx]
    | some i =>
      simp only [sliceBounds, HT.sIx, Option.getD_none, show (1 : Int) > 0 by decide, if_true]
      by_cases h : i < 0
      · simp only [h, if_true] <;> omega
      · simp only [h, if_false] <;> omega
theorem slicePick_cut (its : List Value) (lo hi : Option Int) : slicePick its.toArray lo hi none = ((its.drop (HT.sIx its.length 0 lo)).take (HT.sIx its.length its.length hi - HT.sIx its.length 0 lo)).toArray := by
  obtain ⟨h1, h2, h3⟩ := slice_bounds lo hi its.toArray.size
  unfold slicePick
  rw [h1, h2, h3]
  simp only [sliceRange_one, pick_run, List.size_toArray] <;> rfl
/-- xs[lo:hi] of a list: a new list -/
def rSlL (K : PySem.W.Frag) : V → Option Int → Option Int → Hp → VK → Prop := fun x lo hi H Q => ∃ a xs, x = .ref a ∧ SqL K H a xs ∧ ∀ p, H p = none → Q (.ref p) (upd H p (.lst (cutV xs lo hi)))
theorem sl_list : SlR X (rSlL X.K) := by
  intro pins s σ H x v vl vu lo hi sl Q I rx hs pl pu h
  obtain ⟨a, xs, rfl, hx, q⟩ := h
  cases rx
  obtain ⟨its, r, ht, hz⟩ := I.list hx
  have hlen := r.length
  refine ⟨"list", _, slot_list_getitem.lookup, ht.isList.typeIs, ?_⟩
  refine wpAny_getItem_list_slice ht.isList hs pl pu .none (by simp) ?_ (by rw [List.size_toArray] <;> omega)
  rw [slicePick_cut, ← hlen]
  refine ⟨.ref s.heap.objs.size, _, I.laid (t' := s.toks) (o := .lst (cutV xs lo hi)) (fun b ob q => Heap.get?_push_of_some _ q) (Nat.le_refl _) ?_, rfl, q _ (I.hok.fresh (Nat.le_refl _))⟩
  exact ⟨Nat.le_trans (cutV_length xs lo hi) hz, _, 0, (r.drop (HT.sIx xs.length 0 lo)).take (HT.sIx xs.length xs.length hi - HT.sIx xs.length 0 lo), Heap.get?_push_size _ rfl⟩

/-! ### in, not in: flat items -/
/-! ### len, list(x), tuple(x) of any list or tuple that is read -/
theorem call_len_seq : CallR X (.builtin "len") (fun xs H Q => ∃ p ys, xs = [.ref p] ∧ (SqL X.K H p ys ∨ SqT X.K H p ys) ∧ Q (.int ys.length) H) := by
  intro pins s σ H xs us Q I r h
  obtain ⟨p, ys, rfl, hq, q⟩ := h
  obtain ⟨u, rfl, rx⟩ := vals1 r
  cases rx
  have hn := line63
  rcases hq with hq | hq
  · obtain ⟨its, r', pl, hz⟩ := I.list hq
    have hlen := r'.length
    exact Calls.call_len_list pl.isList (by simp only [List.size_toArray] <;> omega) ⟨.int ys.length, H, I.tok _, ⟨s.toks + 1, by rw [List.size_toArray, hlen]⟩, q⟩
  · obtain ⟨its, r', pl, hz⟩ := I.tuple hq
    have hlen := r'.length
    exact len_tuple pl (by simp only [List.size_toArray] <;> omega) ⟨.int ys.length, H, I.tok _, ⟨s.toks + 1, by rw [List.size_toArray, hlen]⟩, q⟩
theorem CallR.or {f : Value} {r r' : List V → Hp → VK → Prop} (h : CallR X f r) (h' : CallR X f r') : CallR X f (fun xs H Q => r xs H Q ∨ r' xs H Q) := by
  intro pins s σ H xs us Q I rs q
  rcases q with q | q
  · exact h pins s σ H xs us Q I rs q
  · exact h' pins s σ H xs us Q I rs q
theorem call_list_of : CallR X (.type "list") (fun xs H Q => ∃ p ys, xs = [.ref p] ∧ (SqL X.K H p ys ∨ SqT X.K H p ys) ∧ ∀ l, H l = none → Q (.ref l) (upd H l (.lst ys))) := by
  intro pins s σ H xs us Q I r h
  obtain ⟨p, ys, rfl, hq, q⟩ := h
  obtain ⟨u, rfl, rx⟩ := vals1 r
  cases rx
  have fin : ∀ (its : List Value), Vals ys its → ys.length ≤ sizeLine → ∀ (h' : Heap) (c' : Nat), (∀ b o', s.heap.get? b = some o' → h'.get? b = some o') →
      h'.get? s.heap.objs.size = some { cls := .type "list", dict := none, data := .seq its.toArray c', slots := #[] } → EP X pins σ Q (.ref s.heap.objs.size) { s with heap := h' } := fun its r' hz h' c' kp e =>
    ⟨.ref s.heap.objs.size, _, I.laid (t' := s.toks) kp (Nat.le_refl _) (show ObjOk X.prog X.w _ h' _ (.lst ys) from ⟨hz, its, c', r', e⟩), rfl, q _ (I.hok.fresh (Nat.le_refl _))⟩
  rcases hq with hq | hq
  · obtain ⟨its, r', pl, hz⟩ := I.list hq
    have hlen := r'.length
    obtain ⟨o, ho, hc, n, hd⟩ := pl.isList
    exact call_list_seq p (.inl rfl) ho hc hd (fun h' c' kp e => fin its r' hz h' c' kp e) (by simp only [List.size_toArray] <;> omega)
  · obtain ⟨its, r', pl, hz⟩ := I.tuple hq
    have hlen := r'.length
    obtain ⟨o, ho, hc, n, hd⟩ := pl
    exact call_list_seq p (.inr rfl) ho hc hd (fun h' c' kp e => fin its r' hz h' c' kp e) (by simp only [List.size_toArray] <;> omega)
/-! ### the call of a builtin's method: o.m(..) -/
/-- the value is of that builtin type -/
def tyV (K : PySem.W.Frag) (T : String) (x : V) (H : Hp) : Prop := match x with
  | .str _ => T = "str"
  | .int _ => T = "int"
  | .ref p => (T = "list" ∧ ∃ xs, SqL K H p xs) ∨ (T = "tuple" ∧ ∃ o, K.lookup p = some o ∧ o.cls = .type "tuple" ∧ o.dict = none) ∨
      (T = "dict" ∧ ((∃ kvs, H p = some (.dK kvs)) ∨ ∃ kvs, H p = some (.dT kvs))) ∨ (T = "set" ∧ ∃ S n, H p = some (.set S n))
  | _ => False
theorem tyV_is {pins : List (Addr × Obj)} {σ : St} {H : Hp} {s : Shared} {T : String} {x : V} {v : Value} (I : Inv X pins σ H s) (r : RelV x v) (ty : tyV X.K T x H) :
    s.TypeIs v T ∧ ∀ a, v = .ref a → ∃ ob, s.heap.get? a = some ob ∧ ob.dict = none := by
  cases x with
  | str z =>
    obtain ⟨t, rfl⟩ := r
    cases (show T = "str" from ty)
    exact ⟨typeIs_str s z t, fun _ e => nomatch e⟩
  | int i =>
    obtain ⟨t, rfl⟩ := r
    cases (show T = "int" from ty)
    exact ⟨typeIs_int s i t, fun _ e => nomatch e⟩
  | ref p =>
    cases r
    rcases ty with ⟨rfl, xs, hq⟩ | ⟨rfl, o, hk, hc, hd⟩ | ⟨rfl, hk⟩ | ⟨rfl, S, n, hk⟩
    · obtain ⟨its, _, pl, _⟩ := I.list hq
      refine ⟨pl.isList.typeIs, fun a e => ?_⟩
      cases e
      obtain ⟨o, n, e, c, hd, _⟩ := pl
      exact ⟨o, e, hd⟩
    · refine ⟨⟨o, I.kIn p o hk, hc⟩, fun a e => ?_⟩
      cases e
      exact ⟨o, I.kIn _ o hk, hd⟩
    · have z : ∃ o, s.heap.get? p = some o ∧ o.ExactDict := by
        rcases hk with ⟨kvs, hk⟩ | ⟨kvs, hk⟩
        · obtain ⟨_, _, _, _, o, _, _, e, ex, _⟩ := I.hok p _ hk
          exact ⟨o, e, ex⟩
        · obtain ⟨_, _, _, _, o, _, _, e, ex, _⟩ := I.hok p _ hk
          exact ⟨o, e, ex⟩
      obtain ⟨o, e, ex⟩ := z
      refine ⟨⟨o, e, ex.1⟩, fun a e2 => ?_⟩
      cases e2
      exact ⟨o, e, ex.2.1⟩
    · obtain ⟨o, _, _, _, e, ex, _⟩ := I.hok p _ hk
      refine ⟨⟨o, e, ex.1⟩, fun a e2 => ?_⟩
      cases e2
      exact ⟨o, e, ex.2.1⟩
  | _ => exact False.elim ty
def tBM0 (K : PySem.W.Frag) (T : String) (r : V → List V → Hp → VK → Prop) (to : TE) : TE := fun σ H Q => to σ H fun x H1 => tyV K T x H1 ∧ r x [] H1 Q
def tBM (K : PySem.W.Frag) (T : String) (r : V → List V → Hp → VK → Prop) (to : TE) (t : TA) : TE := fun σ H Q => to σ H fun x H1 => tyV K T x H1 ∧ t σ H1 fun xs H2 => r x xs H2 Q
variable {o e : Expr} {es : List Expr} {to : TE} {t : TA} {name : Str} {apos cpos : Pos} {T id : String} {r : V → List V → Hp → VK → Prop}
theorem pe_bm0 (pa : PlainAttrs T) (slot : Slot T name id) (hty : typeOf (.builtin id) = pure (.type "method_descriptor")) (hm : MtR X id r) (ho : PE X o to)
    (hbase : attributeBase o name X.env (eval o X.env) = eval o X.env := by rfl) (hline : (apos.endLine == cpos.line) = true := by rfl) : PE X (.Call (.Attribute o name apos) [] [] cpos) (tBM0 X.K T r to) := by
  intro pins s σ H Q I h
  refine wpAny_Call_method0_late hbase hline (thn (ho pins s σ H _ I h) fun v s1 ⟨x, H1, I1, r1, ty, q1⟩ => ?_)
  obtain ⟨h1, h2⟩ := tyV_is I1 r1 ty
  exact ⟨T, id, pa, slot, hty, h1, h2, Calls.callWith_builtin rfl (PySem.evalArgs_none (hm pins s1 σ H1 x [] v [] Q I1 r1 .nil q1))⟩
theorem pe_bm (pa : PlainAttrs T) (slot : Slot T name id) (hty : typeOf (.builtin id) = pure (.type "method_descriptor")) (hm : MtR X id r) (ho : PE X o to) (ha : PA X (e :: es) t)
    (hbase : attributeBase o name X.env (eval o X.env) = eval o X.env := by rfl)
    (hfew : ((backTo cpos (starEach (e :: es) X.env)).all (fun x => !x.1) && (backToKw cpos (keywordEach [] X.env)).all (fun x => x.1.isSome)
      && decide ((e :: es).length + ([] : List Keyword).length + (if ([] : List Keyword).isEmpty then 0 else 1) < 30)) = true := by rfl)
    (hline : (apos.endLine == cpos.line) = true := by rfl) (hs : starEach (e :: es) X.env = (false, eval e X.env) :: starEach es X.env := by rfl) (hplain : (backTo cpos (starEach es X.env)).any (·.1) = false := by rfl) :
    PE X (.Call (.Attribute o name apos) (e :: es) [] cpos) (tBM X.K T r to t) := by
  intro pins s σ H Q I h
  refine wpAny_Call_method_late hbase hfew hline rfl (thn (ho pins s σ H _ I h) fun v s1 ⟨x, H1, I1, r1, ty, q1⟩ => ?_)
  obtain ⟨h1, h2⟩ := tyV_is I1 r1 ty
  refine ⟨T, id, pa, slot, hty, h1, h2, ?_⟩
  have hA := ha cpos pins s1 σ H1 _ I1 q1
  rw [hs] at hA ⊢
  refine Calls.callWith_builtin (by show (false || (backTo cpos (starEach es X.env)).any (·.1)) = false; rw [hplain] <;> rfl) (Calls.evalArgs_plain ?_)
  exact thn hA fun us s2 ⟨vs, H2, I2, r2, q2⟩ => hm pins s2 σ H2 x vs v us Q I2 r1 r2 q2
/- xs.append(e), list.index on a module's tuple .. are MtR facts of 06m -/
end
end L2

namespace L2
open PySem PySem.Spec PyProof.Rows

def MtM (X : Cx) (id : String) (r : V → List V → Hp → VK → Prop) : Prop :=
  ∀ (pins : List (Addr × Obj)) (s : Shared) (σ : St) (H : Hp) (x : V) (xs : List V) (v : Value) (us : List Value) (Q : VK), Inv X pins σ H s → RelV x v → Vals xs us → r x xs H Q →
    wpAny (model X.prog X.w) X.A (call (.builtin id) (v :: us)) (EP X pins σ Q) X.xe s

/-! ### lists of values -/
theorem Vals.one : ∀ {x : V} {us : List Value}, Vals [x] us → ∃ u, us = [u] ∧ RelV x u
  | _, _, .cons r .nil => ⟨_, rfl, r⟩
theorem Vals.two : ∀ {x y : V} {us : List Value}, Vals [x, y] us → ∃ u v, us = [u, v] ∧ RelV x u ∧ RelV y v
  | _, _, _, .cons r (.cons q .nil) => ⟨_, _, rfl, r, q⟩
theorem Vals.zero : ∀ {us : List Value}, Vals [] us → us = []
  | _, .nil => rfl
theorem Vals.dropLast {xs : List V} {us : List Value} (h : Vals xs us) : Vals xs.dropLast us.dropLast := by
  induction h with
  | nil => exact .nil
  | cons r t ih =>
    cases t with
    | nil => exact .nil
    | cons q t' => exact .cons r ih
theorem Vals.eraseIdx : ∀ {xs : List V} {us : List Value} (i : Nat), Vals xs us → Vals (xs.eraseIdx i) (us.eraseIdx i)
  | _, _, _, .nil => .nil
  | _, _, 0, .cons _ t => t
  | _, _, i + 1, .cons r t => .cons r (Vals.eraseIdx i t)
theorem Vals.reverse {xs : List V} {us : List Value} (h : Vals xs us) : Vals xs.reverse us.reverse := by
  induction h with
  | nil => exact .nil
  | cons r t ih => rw [List.reverse_cons, List.reverse_cons]; exact Vals.append ih (.cons r .nil)
theorem erase_last {α : Type} (l : List α) : l.eraseIdx (l.length - 1) = l.dropLast := by
  induction l with
  | nil => rfl
  | cons a r ih =>
    cases r with
    | nil => rfl
    | cons b r =>
      have e : (a :: b :: r).length - 1 = ((b :: r).length - 1) + 1 := by
        have h1 : (a :: b :: r).length = r.length + 2 := rfl
        have h2 : (b :: r).length = r.length + 1 := rfl
        omega
      rw [e, List.eraseIdx_cons_succ, ih]
      all_goals rfl
section
variable {X : Cx} {pins : List (Addr × Obj)} {σ : St} {H : Hp} {s : Shared} {l b : Addr} {xs ys zs : List V}

/-! ### the two steps: a tracked list is rewritten, a new list is laid -/
theorem Inv.lset {its its' : List Value} {n : Nat} {f : Array Value → Array Value} {t' : Nat} (I : Inv X pins σ H s) (hH : H l = some (.lst xs))
    (e : s.heap.get? l = some { cls := .type "list", data := .seq its.toArray n }) (hf : f its.toArray = its'.toArray) (hv : Vals ys its') (hz : ys.length ≤ sizeLine) :
    Inv X pins σ (upd H l (.lst ys)) { s with heap := s.heap.update l (Obj.mapSeq f), toks := t' } := by
  have q := PySem.IsL.update e f
  rw [hf] at q
  refine I.write (x := l) (e := l) (by rw [hH]; exact trivial) (.inl rfl) (fun b' u hb hu => (Heap.get?_update_other s.heap (Obj.mapSeq f) (Ne.symm hb)).trans hu) ⟨_, q⟩ ?_
  exact ⟨hz, its', _, hv, q⟩
theorem Inv.lnew {its : List Value} {t' : Nat} (I : Inv X pins σ H s) (hv : Vals ys its) (hz : ys.length ≤ sizeLine) :
    Inv X pins σ (upd H s.heap.objs.size (.lst ys)) { s with heap := s.heap.push { cls := .type "list", data := .seq its.toArray }, toks := t' } :=
  I.laid (fun _ _ q => Heap.get?_push_of_some _ q) (Nat.le_refl _) ⟨hz, its, 0, hv, Heap.get?_push_size _ rfl⟩
theorem Inv.fresh (I : Inv X pins σ H s) : H s.heap.objs.size = none := I.hok.fresh (Nat.le_refl _)
theorem Inv.lstM (I : Inv X pins σ H s) (hH : H l = some (.lst xs)) : xs.length ≤ sizeLine ∧ ∃ (its : List Value) (n : Nat), Vals xs its ∧ xs.length = its.length ∧ s.heap.get? l = some { cls := .type "list", data := .seq its.toArray n } := by
  obtain ⟨z, its, n, r, e⟩ := I.hok l _ hH
  exact ⟨z, its, n, r, r.length, e⟩

theorem notLongL {n : Nat} (h : n ≤ sizeLine) : Builtin.List.listTooLong n = false := by
  unfold Builtin.List.listTooLong
  exact decide_eq_false (by omega)
end

section
variable {X : Cx}

/-! ### methods -/
def rAppend : V → List V → Hp → VK → Prop := fun x vs H Q => ∃ l xs y, x = .ref l ∧ vs = [y] ∧ H l = some (.lst xs) ∧ xs.length < sizeLine ∧ Q .non (upd H l (.lst (xs ++ [y])))
theorem mt_append : MtM X "list.append" rAppend := by
  intro pins s σ H x vs v us Q I rx rv h
  obtain ⟨l, xs, y, rfl, rfl, hH, hz, q⟩ := h
  cases rx
  obtain ⟨u, rfl, ru⟩ := rv.one
  obtain ⟨z, its, n, r, hl, e⟩ := I.lstM hH
  refine call_meets F.slot_list_append ⟨_, e, rfl⟩ F.entry_list_append (F.args_list_append_2 _ _) (PySem.list_append l its.toArray n u (by rw [List.size_toArray]; omega)) ⟨e, ?_⟩
  refine ⟨.non, _, I.lset (its' := its ++ [u]) hH e (by simp) (r.append (.cons ru .nil)) ?_, rfl, q⟩
  rw [List.length_append, List.length_singleton]
  omega

def rExtend : V → List V → Hp → VK → Prop := fun x vs H Q => ∃ l b xs zs, x = .ref l ∧ vs = [.ref b] ∧ H l = some (.lst xs) ∧ H b = some (.lst zs) ∧ xs.length + zs.length ≤ sizeLine ∧ Q .non (upd H l (.lst (xs ++ zs)))
theorem mt_extend : MtM X "list.extend" rExtend := by
  intro pins s σ H x vs v us Q I rx rv h
  obtain ⟨l, b, xs, zs, rfl, rfl, hH, hB, hz, q⟩ := h
  cases rx
  obtain ⟨u, rfl, ru⟩ := rv.one
  cases ru
  obtain ⟨z, its, n, r, hl, e⟩ := I.lstM hH
  obtain ⟨z2, its2, n2, r2, hl2, e2⟩ := I.lstM hB
  have hsz : its.toArray.size + its2.toArray.size ≤ sizeLine := by rw [List.size_toArray, List.size_toArray]; omega
  have hlong : ¬ (!its.toArray.isEmpty && Builtin.List.listTooLong (its.toArray.size + its2.toArray.size)) = true := by
    rw [notLongL hsz, Bool.and_false]
    exact Bool.false_ne_true
  refine call_meets F.slot_list_extend ⟨_, e, rfl⟩ F.entry_list_extend (F.args_list_extend_2 _ _)
    (AutoSeq1.list_extend_list_list_0 l its.toArray n b its2.toArray n2 hlong (by rw [List.size_toArray]; omega) (by omega)) ⟨e, e2, ?_⟩
  refine ⟨.non, _, I.lset (its' := its ++ its2) hH e (by simp) (r.append r2) ?_, rfl, q⟩
  rw [List.length_append]
  omega

def rPop : V → List V → Hp → VK → Prop := fun x vs H Q => ∃ l xs y, x = .ref l ∧ vs = [] ∧ H l = some (.lst xs) ∧ xs[xs.length - 1]? = some y ∧ Q y (upd H l (.lst xs.dropLast))
theorem mt_pop : MtM X "list.pop" rPop := by
  intro pins s σ H x vs v us Q I rx rv h
  obtain ⟨l, xs, y, rfl, rfl, hH, hy, q⟩ := h
  cases rx
  have hus := rv.zero
  subst hus
  obtain ⟨z, its, n, r, hl, e⟩ := I.lstM hH
  obtain ⟨u, hu, ru⟩ := r.get hy
  have hy' : its.toArray[its.toArray.size - 1]? = some u := by
    show its.toArray[its.length - 1]? = some u
    rw [← Array.getElem?_toList, ← hl]
    exact hu
  refine call_meets F.slot_list_pop ⟨_, e, rfl⟩ F.entry_list_pop (F.args_list_pop_1 _) (MeetsSeq.list_pop_last l its.toArray n u hy' (by rw [List.size_toArray]; omega)) ⟨e, ?_⟩
  refine ⟨y, _, I.lset (its' := its.dropLast) hH e ?_ r.dropLast ?_, ru, q⟩
  · show its.toArray.eraseIdxIfInBounds (its.toArray.size - 1) = its.dropLast.toArray
    rw [List.size_toArray, List.eraseIdxIfInBounds_toArray, erase_last]
  · rw [List.length_dropLast]
    omega

/-! ### list + list, list += list, list * int -/
def rCat : R2 := fun x y H Q => ∃ l b xs zs, x = .ref l ∧ y = .ref b ∧ H l = some (.lst xs) ∧ H b = some (.lst zs) ∧ xs.length + zs.length ≤ sizeLine ∧ ∀ p, H p = none → Q (.ref p) (upd H p (.lst (xs ++ zs)))
theorem op_cat : OpR X (binaryOp .Add) rCat := by
  intro pins s σ H x y v u Q I rx ry h
  obtain ⟨l, b, xs, zs, rfl, rfl, hH, hB, hz, q⟩ := h
  cases rx
  cases ry
  obtain ⟨z, its, n, r, hl, e⟩ := I.lstM hH
  obtain ⟨z2, its2, n2, r2, hl2, e2⟩ := I.lstM hB
  refine PySem.P.add_list e e2 ?_ (by rw [List.size_toArray, List.size_toArray]; omega)
  have ea : its.toArray ++ its2.toArray = (its ++ its2).toArray := by simp
  rw [ea]
  exact ⟨.ref _, _, I.lnew (t' := s.toks) (r.append r2) (by rw [List.length_append]; omega), rfl, q _ I.fresh⟩
/-! ### del xs[i] -/
end

/-! ### xs[a:b] = ys -/
section
variable {prog : Program} {w : World} {A : Around} {E : Value → Shared → Prop} {s : Shared}
end

section
variable {X : Cx}
end
end L2

namespace Att
open PySem PySem.W PySem.Calls PyProof.Rows

/-! ### the script -/
theorem ints_of_wellAll {P : Params} {h : Heap} : ∀ (ns : List Int) (vs : List Value), WellAll P h vs (ns.map WData.int) → IntsAre vs ns := by
  intro ns
  induction ns with
  | nil =>
    intro vs w
    rw [List.map_nil] at w
    cases w
    exact .nil
  | cons n ns ih =>
    intro vs w
    rw [List.map_cons] at w
    cases w with
    | cons a b =>
      cases a
      exact .cons _ _ (ih _ b)

theorem script_of {l : OpenLaw} {n : Nat} (hn : l.most = some n) {P : Params} {h : Heap} {args : List WData} {vals : List Value}
    (hpre : l.row.toRowW.claim.pre args = true) (hwl : WellAll P h vals args) :
    ∃ a vs ns, vals = [Value.ref a] ∧ args = [WData.list (ns.map WData.int)] ∧ h.get? a = some { cls := .type "list", data := .seq vs.toArray } ∧ IntsAre vs ns ∧ ns.length ≤ n := by
  have hsh : WShape.hasAll [] args [.list .int] = true := (pre_splitW hpre).1
  have hc : l.pre.holds [] { args := args } = true := (pre_splitW hpre).2
  obtain ⟨d, r, rfl, h1, h2⟩ := hasAllW_cons hsh
  obtain rfl := hasAllW_nil h2
  obtain ⟨xs, rfl, h3⟩ := hasW_list h1
  obtain ⟨ns, rfl⟩ := items_int h3
  have hlen : ns.length ≤ n := by
    unfold OpenLaw.pre at hc
    have h4 : (WTm.not (.lt (.lit (.int (n : Int))) (.len (.arg 0)))).holds [] { args := [.list (ns.map .int)] } = true := by
      have h4 := (holds_andW hc).1
      rw [hn] at h4
      exact h4
    have h5 := condW_of h4 (w_not (w_lt w_lit (w_len_list (w_arg rfl))))
    rw [List.length_map] at h5
    refine Nat.le_of_not_lt fun q => ?_
    have q' : (n : Int) < ((ns.length : Nat) : Int) := by omega
    first
      | (rw [decide_eq_true q'] at h5; exact absurd h5 (by decide))
      | (simp at h5; omega)
  cases hwl with
  | cons w1 w2 =>
    cases w2
    cases w1 with
    | list ho hall => exact ⟨_, _, ns, rfl, rfl, ho, ints_of_wellAll ns _ hall, hlen⟩

theorem post_true (l : OpenLaw) (args : List WData) : l.row.toRowW.claim.post args (.bool true) args = true :=
  postW_of (r := l.row.toRowW) (X := (true == true))
    (show WShape.has [] (.bool true) .bool = true by first | rfl | decide | simp [WShape.has, WShape.arms, WShape.armsAll])
    (show (WTm.eq .res (.lit (.bool true))).value [] { args := args, res := some (.bool true), after := args } = some (.bool (true == true)) from w_eq_bool (w_res rfl) w_lit) rfl

/-! ### the attachment: holds_open's last premise (the goal 'hc' behind k_head) from a wpAny of the law's body -/
/-- the same from a codeAny of the CALL (for a layer whose function contracts speak of calls) -/
theorem attach_call {l : OpenLaw} {n : Nat} {q : Program} {loose : List Str} {XP : (Str → Option Value) → Heap → Prop} {YP : World → Heap → Prop} {d : DefRec}
    (hn : l.most = some n) (hdf : d.params.defaults = [])
    (call : ∀ (w : World) (s₀ s₁ : Shared) (mg mb : Str → Option Value) (fa : Addr) (o : Obj) (pm cd doc : Value) (a : Addr) (vs : List Value) (ns : List Int),
      Ground q loose [] XP w s₀ mg mb s₁.heap → YP w s₁.heap →
      s₁.heap.get? fa = some o → o.data = .func (docDef d.name d.params d.body d.scope pm cd doc) → s₁.heap.CodeRec cd d.name → mg d.name = some (.ref fa) →
      s₁.heap.get? a = some { cls := .type "list", data := .seq vs.toArray } → IntsAre vs ns → ns.length ≤ n → s₁.gens = #[] →
      codeAny (model l.prog w) callerA (.call (.ref fa) ⟨[.ref a], []⟩) (fun r s' => r = .ok (.ret (.bool true)) ∧ OldK s₁.heap s'.heap ∧ s'.os = s₁.os ∧ AllBare s'.gens) s₁) :
    WalkO q loose XP YP l.row.toRowW d [] (fun f vs => PySem.call f vs) := by
  intro w s₀ s₁ mg mb G Y fa o pm cd doc dV kV ho hd hcd hD hmg hg args vals as hpre hlay hrd hwl hlo
  obtain rfl : dV = .none := Dflts.none hD hdf
  obtain rfl : kV = .none := Dflts.noKw hD
  obtain ⟨a, vs, ns, rfl, rfl, hobj, hints, hlen⟩ := script_of hn hpre hwl
  refine enter_call (codeAny_mono (call w s₀ s₁ mg mb fa o pm cd doc a vs ns G Y ho (fd_plain hd) hcd hmg hobj hints hlen hg) fun r s' hq => ?_)
  obtain ⟨rfl, h2, h3, h4⟩ := hq
  exact ⟨.inl ⟨.bool true, .bool true, [], rfl, fun _ => rfl, .bool true, post_true l _, fun _ => ⟨List.Pairwise.nil, fun _ hm => (nomatch hm)⟩⟩, h2, h3, h4⟩

/-! ### rules over ANY heap (no ledger) from facts about the written part K: the library's own take a ledger (News) for what they write -/
section
variable {prog : Program} {w : World} {A : Around} {E : Value → Shared → Prop} {s : Shared} {K : Frag}

/-! the whole heap as the ledger: makes every rule that writes through a ledger a rule over any heap -/
def ledger (h : Heap) (L d : Addr) : List (Addr × Obj) := (List.range h.objs.size).filterMap fun a => if a = L ∨ a = d then none else (h.get? a).map fun o => (a, o)
end
end Att

namespace L2
open PySem PySem.Spec PyProof.Rows

theorem vals_ints : ∀ {vs : List Value} {ns : List Int}, IntsAre vs ns → Vals (ns.map V.int) vs
  | _, _, .nil => .nil
  | _, _, .cons n t h => .cons ⟨t, rfl⟩ (vals_ints h)

/-- nothing is tracked but the script, known to the object (or it is an object of the module) -/
def Only (H : Hp) : Prop := ∀ b, H b = none ∨ ∃ o xs, H b = some (.frz o (.lst xs))

/-- THE HEAD: the law's promise, at the heap behind the top. F, the promise of the law's def, may use that base is part of the heap (so K.In base, base.Ns mainGlobals mg stand in Mod) -/
theorem law_call {P : Program} {w : World} {K : PySem.W.Frag} {mg mb : Str → Option Value} {CX : CXT} {k : Nat} {fa a : Addr} {fd : FuncData} {x : Str} {sp : Sp} {s₁ : Shared} {vs : List Value} {ns : List Int}
    (KX : K.In s₁.heap) (hns : s₁.heap.Ns mainGlobals mg) (hb : s₁.heap.Ns builtinsNs mb) (hbb : ∀ x : Str, x ≠ "__name__" → mb x = bootBuiltins x) (hlim : s₁.heap.NoLimit) (hg : s₁.gens = #[])
    (ha : s₁.heap.get? a = some { cls := .type "list", data := .seq vs.toArray }) (hi : IntsAre vs ns) (hl : ns.length ≤ sizeLine) (hr : Room k callerA)
    (F : ∀ base : Heap, K.In base → base.Ns mainGlobals mg → FnOk P w K mg base CX k fa fd [x] sp) (hbind : ∀ (s : Shared) (u : Value), BindsTo s fd ⟨[u], []⟩ [(x, u)])
    (hsp : ∀ H : Hp, Only H → SqL K H a (ns.map V.int) → sp [.ref a] H (fun v _ => v = .bl true) fun _ _ _ => False)
    (hCX : ∀ H e s', CX [] H s₁ (fun _ _ _ => False) e s' → False) :
    codeAny (model P w) callerA (.call (.ref fa) ⟨[.ref a], []⟩) (fun r s' => r = .ok (.ret (.bool true)) ∧ OldK s₁.heap s'.heap ∧ s'.os = s₁.os ∧ AllBare s'.gens) s₁ := by
  have rv := vals_ints hi
  have lenV := hi.length
  -- from an abstract heap in which nothing but the script may be tracked
  have core : ∀ H : Hp, Only H → SqL K H a (ns.map V.int) → HOk P w H s₁.heap → (∀ b, H b ≠ none → b = a) → (H a ≠ none → K.lookup a = none) →
      codeAny (model P w) callerA (.call (.ref fa) ⟨[.ref a], []⟩) (fun r s' => r = .ok (.ret (.bool true)) ∧ OldK s₁.heap s'.heap ∧ s'.os = s₁.os ∧ AllBare s'.gens) s₁ := by
    intro H hO hS hok hA hK
    have base_of : ∀ {b : Addr} {o : Obj}, s₁.heap.get? b = some o → H b = none → (hidT s₁.heap H).get? b = some o := fun e n => hidT_get e n
    have noA : ∀ {b : Addr} {o : Obj} {es : Array DictEntry} {ep : Nat}, s₁.heap.get? b = some o → o.data = .dict es ep → H b = none := fun {b o es ep} e d => by
      cases q : H b with
      | none => rfl
      | some u =>
        have e' : b = a := hA b (by rw [q]; simp)
        subst e'
        rw [ha] at e; cases e
        have d' : Data.seq vs.toArray _ = Data.dict es ep := d
        cases d'
    have nsK : ∀ {b : Addr} {m : Str → Option Value}, s₁.heap.Ns b m → (hidT s₁.heap H).Ns b m := fun {b m} ⟨o, es, ep, e, d, r⟩ => ⟨o, es, ep, base_of e (noA e d), d, r⟩
    have hKb : K.In (hidT s₁.heap H) := fun b o e => base_of (KX b o e) (by
      cases q : H b with
      | none => rfl
      | some u =>
        have e' : b = a := hA b (by rw [q]; simp)
        subst e'
        rw [hK (by rw [q]; simp)] at e; cases e)
    have hM : Mod K mg (hidT s₁.heap H) := ⟨hKb, nsK hns, ⟨mb, nsK hb, hbb⟩, let ⟨mc, h1, h2⟩ := hlim; ⟨mc, nsK h1, h2⟩⟩
    have e0 : Env0 P w K mg (hidT s₁.heap H) callerA [] s₁ H := ⟨rfl, hM, fun b o e => of_hidT e, Nat.le_of_eq (hidT_size _ _), trivial, fun b hb => absurd (show b ∈ ([] : List Addr) from hb) (by simp), hok, .of_eq hg⟩
    refine codeAny_mono ((F _ hKb (nsK hns)).run callerA [] s₁ H ⟨[.ref a], []⟩ [.ref a] [.ref a] _ _ hr e0 (hbind s₁ (.ref a)) (.cons rfl .nil) (hsp H hO hS)) fun r s' h => ?_
    cases r with
    | error e => exact (hCX H e s' h).elim
    | ok fl =>
      cases fl with
      | next => exact False.elim h
      | brk => exact False.elim h
      | cont => exact False.elim h
      | ret u =>
        obtain ⟨v, H', os, bare, un, hok', r', q⟩ := h
        have q' : v = .bl true := q
        subst q'
        obtain rfl : u = Value.bool true := r'
        refine ⟨rfl, OldK.of_keep fun b o e => ?_, os, bare⟩
        cases q : H b with
        | none => exact un.keep b o e q (by intro z; exact absurd (show b ∈ ([] : List Addr) from z) (by simp)) (by simp)
        | some u =>
          rcases hO b with z | ⟨ob, xs, z⟩
          · rw [q] at z; cases z
          · have z2 := un.frzs b ob _ z
            obtain ⟨e1, _⟩ := hok b _ z
            obtain ⟨e2, _⟩ := hok' b _ z2
            rw [e] at e1; cases e1
            exact e2
  cases hk : K.lookup a with
  | some o =>
    -- the script is one of the module's own objects
    have e := KX a o hk
    rw [ha] at e
    cases e
    refine core (fun _ => none) (fun _ => .inl rfl) (.inr ⟨_, vs.toArray, _, hk, rfl, rfl, rfl, by rw [List.size_toArray, lenV]; exact hl, by simpa using rv⟩) (fun b u z => by have z' : (none : Option HO) = some u := z; cases z') (fun b z => absurd rfl z) fun z => absurd rfl z
  | none =>
    refine core (fun b => if b = a then some (.frz { cls := .type "list", data := .seq vs.toArray } (.lst (ns.map V.int))) else none) (fun b => ?_) (.inl (.inr ⟨{ cls := .type "list", data := .seq vs.toArray }, if_pos rfl⟩)) (fun b u z => ?_) (fun b z => ?_) fun _ => hk
    · by_cases hb : b = a
      · exact .inr ⟨_, _, if_pos hb⟩
      · exact .inl (if_neg hb)
    · by_cases hb : b = a
      · have z' := (if_pos hb).symm.trans z
        cases z'
        subst hb
        exact ⟨ha, by rw [List.length_map]; exact hl, vs, _, rv, ha⟩
      · have z' := (if_neg hb).symm.trans z
        cases z'
    · by_cases hb : b = a
      · exact hb
      · exact absurd (if_neg hb) z
end L2

namespace L2
open PySem PySem.Spec PyProof.Rows

abbrev KOf {K : PySem.W.Frag} {h : Heap} (_ : K.In h) : PySem.W.Frag := K

/-- the goal that k_head leaves (case hc), from the law's promise. F gives the function object fd (K's own) once, then the promise over every base -/
theorem walk_of {l : PySem.W.OpenLaw} {n k : Nat} {q : Program} {loose : List Str} {XP : (Str → Option Value) → Heap → Prop} {YP : World → Heap → Prop} {d : DefRec} {K : Params → PySem.W.Frag} {CX : World → CXT} {sp : World → Sp} {x : Str}
    (hn : l.most = some n) (hn2 : n ≤ sizeLine) (hdf : d.params.defaults = []) (hr : Room k callerA)
    (hY : ∀ (w : World) (h : Heap), YP w h → (K w.params).In h)
    (F : ∀ (w : World) (mg : Str → Option Value) (fa : Addr) (h : Heap), (K w.params).In h → h.Ns mainGlobals mg → mg d.name = some (.ref fa) →
      ∃ fd : FuncData, (∀ (s : Shared) (u : Value), BindsTo s fd ⟨[u], []⟩ [(x, u)]) ∧
        ∀ base : Heap, (K w.params).In base → base.Ns mainGlobals mg → FnOk l.prog w (K w.params) mg base (CX w) k fa fd [x] (sp w))
    (hsp : ∀ (w : World) (H : Hp) (a : Addr) (ns : List Int), ns.length ≤ n → Only H → SqL (K w.params) H a (ns.map V.int) → sp w [.ref a] H (fun v _ => v = .bl true) fun _ _ _ => False)
    (hCX : ∀ (w : World) (H : Hp) (s : Shared) (e : Value) (s' : Shared), CX w [] H s (fun _ _ _ => False) e s' → False) :
    PySem.W.WalkO q loose XP YP l.row.toRowW d [] (fun f vs => PySem.call f vs) := by
  refine Att.attach_call hn hdf fun w s₀ s₁ mg mb fa o pm cd doc a vs ns G Y ho hd hcd hmg hobj hints hlen hg => ?_
  have KX := hY w _ Y
  obtain ⟨fd, hb, hF⟩ := F w mg fa _ KX G.T.g hmg
  exact law_call KX G.T.g G.T.b G.T.builtins G.T.nolimit hg hobj hints (Nat.le_trans hlen hn2) hr hF hb (fun H hO hS => hsp w H a ns hlen hO hS) fun H e s' => hCX w H s₁ e s'
end L2

/- THE LAST THEOREM (shape; LID, My.* are yours):
   My.Adr: a structure of the addresses that your layer names (classes, functions); My.Txt K t: a structure (Prop) of the equations over K;
   My.txt_mk : {K} {implicit addresses ..} (e1 : nsIn K mainGlobals "law" = some (some (.ref f))) (e2 : K.lookup f = some ⟨oc, od, .func (fnOf "law" "law" params body scope dV kV doc pm an cdv ct), sl⟩) (e3 : codeIn K cdv "law" = true) .. : ∃ t, My.Txt K t

set_option maxRecDepth 100000 in
set_option maxHeartbeats 0 in
theorem PySem.Challenge.cw_LID_holds : PySem.Challenge.rw_LID.Holds := by
  w_on; o_law; k_head; (case hw => w_witness2)
  k_fill
  refine L2.walk_of (l := PySem.Challenge.rw_LID) (n := 63) (k := 40) (x := "script") (CX := fun w => ..) (sp := fun _ => My.sp_law) rfl (by decide) rfl ⟨rfl, by decide, by decide⟩ (fun w h Y => PySem.W.kIn_of Y) ?F ?S ?C
  case F =>
    intro w mg fa h KX G hmg
    have T : ∃ t, My.Txt (L2.KOf KX) t := by
      dsimp only [L2.KOf]                          -- K must stand as «<heap const> w.params» for k_is
      refine' My.txt_mk ?e1 ?e2 ?e3 ..
      (case e1 => PySem.W.k_is)                    -- in the order: a name -> its address -> its object -> its parts
      (case e2 => PySem.W.k_is)
      ..
    obtain ⟨t, T⟩ := T
    have e0 := hmg.symm.trans (PySem.W.mg_of KX G T.law)
    cases e0                                       -- fa is the law's own address
    exact ⟨_, fun s u => .of_eq rfl, fun base kb nb => My.law_fn T kb nb⟩     -- if «.of_eq rfl» comes too early: refine' ⟨_, ?b, fun base kb nb => My.law_fn T kb nb⟩; exact fun s u => .of_eq rfl
  case S => exact fun w H a ns hl hO hS => ..
  case C => exact ..
(the tactic k_is has no namespace: write k_is) -/

/-! SHORT WORDS over the layer: a def of the text, its body, what a loop and a test want. -/
namespace L2
open PySem PySem.Spec PyProof.Rows

/-! ### the text by places -/
def defArgs (s : Stmt) : Arguments := match s with
  | .FunctionDef _ a _ _ _ _ _ _ _ _ => a
  | _ => { posonlyargs := [], args := [], vararg := none, kwonlyargs := [], kw_defaults := [], kwarg := none, defaults := [] }
def defBody (s : Stmt) : List Stmt := match s with
  | .FunctionDef _ _ b _ _ _ _ _ _ _ => b
  | _ => []
def defScope (s : Stmt) : Scope := match s with
  | .FunctionDef _ _ _ _ _ _ sc _ _ _ => sc
  | _ => { kind := .function, names := [], isGenerator := false, isCoroutine := false }

/-! ### no exception leaves a def -/
abbrev CX0 : CXT := fun _ _ _ _ _ _ => False
abbrev E0 : XK := fun _ _ _ => False
theorem pass0 {X : Cx} : Passes CX0 X E0 := fun _ _ _ _ _ _ _ h => h.elim

/-! ### a def (or method) of the text as it stands behind the top -/
structure Fun (K : PySem.W.Frag) (x qual : Str) (st : Stmt) (f : Addr) (fd : FuncData) : Prop where
  ex : ∃ (oc : Value) (od : Option Addr) (kV doc pm : Value) (an : Option Addr) (cdv ct : Value) (osl : Array (Option Value)),
    fd = PySem.W.fnOf x qual (defArgs st) (defBody st) (defScope st) .none kV doc pm an cdv ct ∧ K.lookup f = some ⟨oc, od, .func fd, osl⟩ ∧ PySem.W.codeIn K cdv qual = true
  kp : PySem.W.keepIn K (.ref f) = true
section
variable {P : Program} {w : World} {K : PySem.W.Frag} {mg : Str → Option Value} {base : Heap}
/-- THE RULE for a def: its body as a term of rules, and the reading of that term -/
theorem Fun.ok {x qual : Str} {st : Stmt} {f : Addr} {fd : FuncData} {N ps : List Str} {k : Nat} {sp : Sp} (F : Fun K x qual st f fd) (S : FnScope N ps (defScope st)) (len : ∀ vs H Q E, sp vs H Q E → vs.length = ps.length)
    (hbody : ∀ (cdv : Value) (A : Around) (outer : List Env) (s : Shared) (H : Hp) (vs : List V) (Q : VK) (E : XK), Room k (A.deeper (envOfC qual (defScope st) s.heap.objs.size f cdv)) → sp vs H Q E →
      ∃ t, PSs (cxOf CX0 P w K mg base N qual (defScope st) f cdv A outer s H E).nox (defBody st) t ∧ t { nx := fun _ H' => Q .non H', rt := Q } (start N vs) H) : FnOk P w K mg base CX0 (k + 1) f fd ps sp := by
  obtain ⟨oc, od, kV, doc, pm, an, cdv, ct, osl, rfl, lk, hcd⟩ := F.ex
  refine fn_of lk hcd S len fun A outer s H vs Q E hr hsp => ?_
  obtain ⟨t, h, q⟩ := hbody cdv A outer s H vs Q E hr hsp
  exact ⟨t, h.nox, q⟩
/-- how its arguments bind (no defaults): h is «fun _ _ _ _ _ _ us hl => match us, hl with | [_, _], _ => rfl», one _ a parameter -/
theorem Fun.binds {x qual : Str} {st : Stmt} {f : Addr} {fd : FuncData} {ps : List Str} (F : Fun K x qual st f fd)
    (h : ∀ (kV doc pm : Value) (an : Option Addr) (cdv ct : Value) (us : List Value), us.length = ps.length → bindArgs (PySem.W.fnOf x qual (defArgs st) (defBody st) (defScope st) .none kV doc pm an cdv ct) ⟨us, []⟩ = pure (ps.zip us)) : Binds K fd ps [] := by
  obtain ⟨oc, od, kV, doc, pm, an, cdv, ct, osl, rfl, lk, hcd⟩ := F.ex
  exact .all (h kV doc pm an cdv ct)
theorem fun_mk {x qual : Str} {st : Stmt} {f : Addr} {oc : Value} {od an : Option Addr} {osl : Array (Option Value)} {kV doc pm cdv ct : Value} (l : K.lookup f = some ⟨oc, od, .func (PySem.W.fnOf x qual (defArgs st) (defBody st) (defScope st) .none kV doc pm an cdv ct), osl⟩)
    (c : PySem.W.codeIn K cdv qual = true) (k : PySem.W.keepIn K (.ref f) = true) : Fun K x qual st f (PySem.W.fnOf x qual (defArgs st) (defBody st) (defScope st) .none kV doc pm an cdv ct) := ⟨⟨oc, od, kV, doc, pm, an, cdv, ct, osl, rfl, l, c⟩, k⟩
end
theorem hu_of {A : Around} {k : Nat} (hr : Room k A) : A.units + 1 < cLine := Nat.lt_of_le_of_lt (Nat.add_le_add_left (by decide : 1 ≤ 64) _) hr.units
theorem small1000 {n : Nat} (h : n ≤ 1000) : n < sizeLine := Nat.lt_of_le_of_lt h (by decide)

/-! ### expressions in short: the name that stands in the i-th slot -/
section
variable {X : Cx}
theorem pv (i : Nat) {x : Str} {pos : Pos} (hN : X.N[i]? = some x := by rfl) (hv : Vis X.env.scope x := by first | exact Or.inl rfl | exact Or.inr (Or.inl rfl) | exact Or.inr (Or.inr rfl)) (hd : (x == ("__debug__" : Str)) = false := by decide)
    (hcd : (x == ("__classdict__" : Str)) = false := by decide) : PE X (.Name x pos) (tVar i) := pe_var hN hv hd hcd
end

/-! ### tests -/
theorem iteF {A B : Prop} (h : B) : if false = true then A else B := by
  rw [if_neg Bool.false_ne_true]
  exact h
theorem iteT {A B : Prop} (h : A) : if true = true then A else B := by
  rw [if_pos rfl]
  exact h
theorem ite2 {c A B : Prop} [Decidable c] (h1 : c → A) (h2 : ¬ c → B) : if c then A else B := by
  by_cases h : c
  · rw [if_pos h]
    exact h1 h
  · rw [if_neg h]
    exact h2 h
theorem iteNS {c A B : Prop} [Decidable c] (hc : c) (h : B) : if (!decide c) = true then A else B := by
  rw [decide_eq_true hc]
  exact iteF h

/-! ### heaps -/
/-- all that was tracked is as it was -/
def Same (H H' : Hp) : Prop := ∀ b o, H b = some o → H' b = some o
theorem Same.refl (H : Hp) : Same H H := fun _ _ h => h
theorem Same.trans {H H1 H2 : Hp} (a : Same H H1) (b : Same H1 H2) : Same H H2 := fun c o h => b c o (a c o h)
theorem Same.free {H H' : Hp} (e : Same H H') {l : Addr} (h : H' l = Option.none) : H l = Option.none := by
  cases q : H l with
  | none => rfl
  | some o =>
    rw [e l o q] at h
    cases h
theorem Same.seq {K : PySem.W.Frag} {H H' : Hp} {a : Addr} {xs : List V} (e : Same H H') (h : SqL K H a xs) : SqL K H' a xs := by
  rcases h with (h | ⟨o, h⟩) | h
  · exact .inl (.inl (e _ _ h))
  · exact .inl (.inr ⟨o, e _ _ h⟩)
  · exact .inr h

end L2

set_option maxHeartbeats 4000000
namespace L2
open PySem PySem.Spec PyProof.Rows

/-! ### the cells that a comprehension's block is handed -/
def clF (cells : List (Str × Addr)) : List (Str × NameKind) → List (Str × Addr) → List (Str × Addr)
  | [], cs => cs
  | (n, k) :: r, cs => clF cells r (if k == .free then (match cells.lookup n with | some c => (n, c) :: cs | none => cs) else cs)

theorem clF_mem {cells : List (Str × Addr)} : ∀ (names : List (Str × NameKind)) (cs : List (Str × Addr)) (n : Str) (c : Addr), (n, c) ∈ clF cells names cs → (n, c) ∈ cs ∨ (cells.lookup n = some c ∧ (n, NameKind.free) ∈ names)
  | [], cs, n, c, h => .inl h
  | (m, k) :: r, cs, n, c, h => by
    rcases clF_mem r _ n c h with q | ⟨q, z⟩
    · by_cases hk : (k == NameKind.free) = true
      · rw [if_pos hk] at q
        have hk' : k = .free := by simpa using hk
        cases e : cells.lookup m with
        | none => rw [e] at q; exact .inl q
        | some d =>
          rw [e] at q
          rcases List.mem_cons.mp q with z | z
          · cases z; exact .inr ⟨e, by rw [hk']; exact List.mem_cons_self⟩
          · exact .inl z
      · rw [if_neg hk] at q; exact .inl q
    · exact .inr ⟨q, List.mem_cons_of_mem _ z⟩
theorem clF_sub {cells : List (Str × Addr)} : ∀ (names : List (Str × NameKind)) (cs : List (Str × Addr)), ∀ p ∈ cs, p ∈ clF cells names cs
  | [], cs, p, h => h
  | (m, k) :: r, cs, p, h => by
    refine clF_sub r _ p ?_
    by_cases hk : (k == NameKind.free) = true
    · rw [if_pos hk]
      cases cells.lookup m with
      | none => exact h
      | some d => exact List.mem_cons_of_mem _ h
    · rw [if_neg hk]; exact h
theorem clF_has {cells : List (Str × Addr)} : ∀ (names : List (Str × NameKind)) (cs : List (Str × Addr)) (n : Str) (c : Addr), (n, NameKind.free) ∈ names → cells.lookup n = some c → (n, c) ∈ clF cells names cs
  | [], _, _, _, h, _ => nomatch h
  | (m, k) :: r, cs, n, c, h, e => by
    rcases List.mem_cons.mp h with z | z
    · cases z
      refine clF_sub r _ _ ?_
      rw [if_pos (by rfl), e]
      exact List.mem_cons_self
    · exact clF_has r _ n c z e
theorem lookup_isSome_of_mem {β : Type} : ∀ {l : List (Str × β)} {n : Str} {c : β}, (n, c) ∈ l → ∃ d, l.lookup n = some d
  | (m, d) :: r, n, c, h => by
    cases e : n == m with
    | true => exact ⟨d, by simp [List.lookup_cons, e]⟩
    | false =>
      have e' : n ≠ m := by simpa using e
      rcases List.mem_cons.mp h with z | z
      · cases z; exact absurd rfl e'
      · obtain ⟨q, hq⟩ := lookup_isSome_of_mem z
        exact ⟨q, by simp [List.lookup_cons, e, hq]⟩
theorem clF_lookup {cells : List (Str × Addr)} {names : List (Str × NameKind)} {n : Str} {c : Addr} (h : (clF cells names []).lookup n = some c) : cells.lookup n = some c ∧ (n, NameKind.free) ∈ names := by
  rcases clF_mem names [] n c (PySem.mem_of_lookup h) with z | z
  · cases z
  · exact z
theorem closure_eq {env : Env} {scope : Scope} (hf : ∀ n, (n, NameKind.free) ∈ scope.names → ∃ c, env.cells.lookup n = some c) : closureFor scope env = pure (clF env.cells scope.names []) := by
  have go : ∀ (l : List (Str × NameKind)) (cs : List (Str × Addr)), (∀ n, (n, NameKind.free) ∈ l → ∃ c, env.cells.lookup n = some c) →
      (forIn l cs (fun x r => match x with | (name, kind) => if (kind == NameKind.free) = true then do
        let y ← cellOf env name
        pure (ForInStep.yield ((name, y) :: r)) else pure (ForInStep.yield r)) : Sem (List (Str × Addr))) = pure (clF env.cells l cs) := by
    intro l
    induction l with
    | nil => intro cs _; rfl
    | cons x r ih =>
      intro cs h
      obtain ⟨n, k⟩ := x
      rw [List.forIn_cons]
      by_cases hk : (k == NameKind.free) = true
      · have hk' : k = .free := by simpa using hk
        obtain ⟨c, e⟩ := h n (by rw [hk']; exact List.mem_cons_self)
        have ec : cellOf env n = pure c := by unfold cellOf; rw [e]
        simp only [hk, if_true, ec, pure_bind]
        rw [ih _ fun m hm => h m (List.mem_cons_of_mem _ hm)]
        show _ = pure (clF env.cells r _)
        rw [if_pos hk, e]
      · have hk' : (k == NameKind.free) = false := by simpa using hk
        have e1 := ih cs fun m hm => h m (List.mem_cons_of_mem _ hm)
        show (((if (k == NameKind.free) = true then _ else pure (ForInStep.yield cs)) : Sem _) >>= _) = _
        rw [if_neg hk, pure_bind]
        refine Eq.trans e1 ?_
        show _ = pure (clF env.cells r _)
        rw [if_neg hk]
  unfold closureFor
  have := go scope.names [] hf
  rw [bind_pure]
  exact this
end L2

namespace L2
open PySem PySem.Spec PyProof.Rows

/-- a comprehension's own scope against the block around it -/
structure CScope (X : Cx) (xs : List Str) (sc : Scope) : Prop where
  kind : sc.kind = .function
  nocell : ∀ y ∈ sc.names, y.2 ≠ .cell
  names : ∀ y ∈ sc.names, y.2 = .local → sc.names.lookup y.1 = some .local
  own : ∀ x ∈ xs, sc.names.lookup x = some .local
  sep : ∀ y ∈ X.N, sc.names.lookup y ≠ some .local
  frees : ∀ y ∈ sc.names, y.2 = .free → X.env.kindOf y.1 = some .cell ∨ X.env.kindOf y.1 = some .free
  nd : (xs ++ X.N).Nodup

/-- the context of a comprehension's block -/
def cxC (X : Cx) (xs : List Str) (sc : Scope) (ex : List Addr) (s : Shared) (H : Hp) : Cx where
  prog := X.prog
  w := X.w
  K := X.K
  mg := X.mg
  base := X.base
  A := X.A
  N := xs ++ X.N
  s₀ := s
  H₀ := H
  env := compEnvC sc (clF X.env.cells sc.names []) s.heap.objs.size X.env
  outer := X.stack
  stack := X.stack
  ex := ex
  fn := fun _ => false
  calm := X.calm
  pn := []
  xe := fun _ _ => False

theorem lookup_relabel (env : Env) (x : Str) : ∀ names : List (Str × NameKind),
    (names.map fun (n, k) => if (k == NameKind.free && env.scope.kind == .function && env.kindOf n == some .cell) then (n, NameKind.cell) else (n, k)).lookup x =
      (names.lookup x).map fun k => if (k == NameKind.free && env.scope.kind == .function && env.kindOf x == some .cell) then NameKind.cell else k
  | [] => rfl
  | (n, k) :: r => by
    have ih := lookup_relabel env x r
    show List.lookup x ((if (k == NameKind.free && env.scope.kind == .function && env.kindOf n == some .cell) = true then (n, NameKind.cell) else (n, k)) :: _) = _
    cases hx : x == n with
    | true =>
      have e : x = n := by simpa using hx
      subst e
      by_cases hc : (k == NameKind.free && env.scope.kind == .function && env.kindOf x == some .cell) = true
      · rw [if_pos hc]
        simp only [List.lookup_cons, hx, Option.map_some]
        rw [if_pos hc]
      · rw [if_neg hc]
        simp only [List.lookup_cons, hx, Option.map_some]
        rw [if_neg hc]
    | false =>
      by_cases hc : (k == NameKind.free && env.scope.kind == .function && env.kindOf n == some .cell) = true
      · rw [if_pos hc]; simp only [List.lookup_cons, hx]; exact ih
      · rw [if_neg hc]; simp only [List.lookup_cons, hx]; exact ih

/-- a name of the block around, seen in the comprehension, is a free one -/
theorem vis_relabel {sc : Scope} {env : Env} {x : Str} (h : Vis (relabel sc env) x) (hl : sc.names.lookup x ≠ some .local) (hc : ∀ y ∈ sc.names, y.2 ≠ .cell) :
    (x, NameKind.free) ∈ sc.names ∧ ((relabel sc env).names.lookup x = some .cell ∨ (relabel sc env).names.lookup x = some .free) := by
  have e : (relabel sc env).names.lookup x = _ := lookup_relabel env x sc.names
  unfold Vis at h
  rw [e] at h
  cases k : sc.names.lookup x with
  | none => rw [k] at h; simp at h
  | some v =>
    have mem := PySem.mem_of_lookup k
    have nl : v ≠ .local := fun z => hl (by rw [k, z])
    have ncl : v ≠ .cell := fun z => hc _ mem z
    rw [k] at h
    rw [e, k]
    simp only [Option.map_some] at h ⊢
    by_cases hv : v = .free
    · subst hv
      refine ⟨mem, ?_⟩
      split
      · exact .inl rfl
      · exact .inr rfl
    · have : (v == NameKind.free) = false := by simpa using hv
      simp only [this, Bool.false_and] at h
      rcases h with h | h | h
      · exact absurd (Option.some.inj h) nl
      · exact absurd (Option.some.inj h) ncl
      · exact absurd (Option.some.inj h) hv

section
variable {X : Cx} {pins : List (Addr × Obj)} {σ : St} {H : Hp} {s : Shared} {xs : List Str} {sc : Scope} {ex : List Addr}
theorem CScope.cells (S : CScope X xs sc) (ok : X.Ok) : ∀ n, (n, NameKind.free) ∈ sc.names → ∃ c, X.env.cells.lookup n = some c := fun n h => ok.has n (S.frees _ h rfl)
theorem cxC_ok (S : CScope X xs sc) (I : Inv X pins σ H s) (he : ∀ b ∈ ex, b < s.heap.objs.size ∧ b ∉ frs X.stack ∧ (∀ x c, X.env.cells.lookup x = some c → c ≠ b) ∧ X.base.get? b = none) : (cxC X xs sc ex s H).Ok := by
  refine ⟨I.ok.mod, S.kind, I.ok.glob, I.ok.blt, Nat.le_refl _, fun x y c h1 h2 => ?_, fun x hx => ?_, fun _ _ h => (by cases h), I.ok.hd, I.ok.frames, .inl rfl, fun b hb => ⟨Nat.ne_of_lt (he b hb).1, fun x c h => (he b hb).2.2.1 x c (clF_lookup h).1⟩, fun b o e => ?_, ?_, fun b o e hb => ?_, fun b hb => (he b hb).2.1, I.stack, I.stkFree⟩
  · exact I.ok.inj x y c (clF_lookup h1).1 (clF_lookup h2).1
  · have hv : (relabel sc X.env).names.lookup x = some .cell ∨ (relabel sc X.env).names.lookup x = some .free := hx
    have q : (x, NameKind.free) ∈ sc.names := by
      have e : (relabel sc X.env).names.lookup x = _ := lookup_relabel X.env x sc.names
      rw [e] at hv
      cases k : sc.names.lookup x with
      | none => rw [k] at hv; simp at hv
      | some v =>
        have mem := PySem.mem_of_lookup k
        rw [k] at hv
        simp only [Option.map_some] at hv
        by_cases hvf : v = .free
        · rw [hvf] at mem; exact mem
        · have : (v == NameKind.free) = false := by simpa using hvf
          simp only [this, Bool.false_and] at hv
          rcases hv with h | h
          · exact absurd (Option.some.inj h) (S.nocell _ mem)
          · exact absurd (Option.some.inj h) hvf
    obtain ⟨c, e⟩ := S.cells I.ok x q
    exact lookup_isSome_of_mem (clF_has sc.names [] x c q e)
  · exact I.bs b o e
  · exact Nat.le_trans I.ok.bsz I.sz
  · have q : X.base.get? b = none := (he b hb).2.2.2
    have e' : X.base.get? b = some o := e
    rw [q] at e'; cases e'

/-- the block's first state -/
theorem inv_comp {h₁ : Heap} {tk : Nat} (S : CScope X xs sc) (I : Inv X pins σ H s) (he : ∀ b ∈ ex, b < s.heap.objs.size ∧ b ∉ frs X.stack ∧ (∀ x c, X.env.cells.lookup x = some c → c ≠ b) ∧ X.base.get? b = none)
    (hn : h₁.Ns s.heap.objs.size (fun _ => none)) (hk : ∀ b o, s.heap.get? b = some o → h₁.get? b = some o) :
    Inv (cxC X xs sc ex s H) [] (List.replicate xs.length none ++ σ) H { s with heap := h₁, toks := tk } := by
  have I1 : Inv X pins σ H { s with heap := h₁, toks := tk } := I.kept hk
  refine ⟨cxC_ok S I he, rfl, I.bare, Un.kept hk, ⟨_, hn, fun i x v h1 h2 h3 => ?_⟩, fun x c h => I1.cell x c (clF_lookup h).1, I.hok.fresh (Nat.le_refl _), fun x c h => I.freeC x c (clF_lookup h).1, fun p hp => absurd (show p ∈ ([] : List (Addr × Obj)) from hp) (by simp), I.hok.kept hk, ?_⟩
  · have h1' : (xs ++ X.N)[i]? = some x := h1
    by_cases hi : i < xs.length
    · rw [List.getElem?_append_left (by simpa using hi), List.getElem?_replicate, if_pos hi] at h2
      cases h2
    · have hi' : xs.length ≤ i := Nat.le_of_not_lt hi
      rw [List.getElem?_append_right (by simpa using hi')] at h2
      rw [List.getElem?_append_right hi'] at h1'
      rw [List.length_replicate] at h2
      have hm : x ∈ X.N := List.mem_of_getElem? h1'
      obtain ⟨hf, hkd⟩ := vis_relabel h3 (S.sep x hm) S.nocell
      have hko := S.frees _ hf rfl
      obtain ⟨m, _, hl⟩ := I1.loc
      obtain ⟨u, r, l⟩ := hl (i - xs.length) x v h1' h2 (by
        rcases hko with z | z
        · exact .inr (.inl z)
        · exact .inr (.inr z))
      refine ⟨u, r, .inr ⟨hkd, ?_⟩⟩
      rcases l with ⟨z, _⟩ | ⟨_, c, ec, hc⟩
      · rcases hko with q | q <;> (rw [q] at z; cases z)
      · obtain ⟨d, ed⟩ := lookup_isSome_of_mem (clF_has sc.names [] x c hf ec)
        have : c = d := by
          have := (clF_lookup ed).1
          rw [ec] at this
          exact Option.some.inj this
        subst this
        exact ⟨c, ed, hc⟩
  · show (List.replicate xs.length none ++ σ).length = (xs ++ X.N).length
    rw [List.length_append, List.length_append, List.length_replicate, I.len]
end
end L2

namespace L2
open PySem PySem.Spec PyProof.Rows

section
variable {prog : Program} {w : World} {A : Around} {R : Result → Shared → Prop} {s : Shared}
/-- a comprehension's loop, no exception leaving it -/
theorem compLoop_of {elt target iter : Expr} {ifs : List Expr} {scope : Scope} {pos : Pos} {it acc : Value} {env : Env} (I : Nat → Shared → Prop)
    (turn : ∀ n s, I n s → wpAny (model prog w) A (pyNext it) (fun r s₁ => match r with
      | none => R (.ok .next) s₁
      | some v => wpAny (model prog w) A (letOwnedTupleGo target it v) (fun _ s₁' => wpAny (model prog w) A (assign target env v) (fun _ s₂ =>
          wpAny (model prog w) A (forIn ifs true fun c r => if r = true then do let ok ← isTrue c env (eval c env); pure (ForInStep.yield ok) else pure (ForInStep.yield r)) (fun ok s₃ =>
            if ok = true then wpAny (model prog w) A (eval elt env) (fun x s₄ =>
              wpAny (model prog w) A (call (.builtin "list.append") [acc, x]) (fun _ s₅ => ∃ m, m < n ∧ I m s₅) (fun _ _ => False) s₄) (fun _ _ => False) s₃
            else ∃ m, m < n ∧ I m s₃) (fun _ _ => False) s₂) (fun _ _ => False) s₁') (fun _ _ => False) s₁) (fun _ _ => False) s)
    (n : Nat) (h : I n s) :
    codeAny (model prog w) A (.compLoop (.ListComp elt [⟨target, iter, ifs, 0⟩] scope pos) 0 it acc env) R s := by
  refine codeAny_loop rfl I (fun n s hI => ?_) n h
  show wpAny _ A ((compTurn (.ListComp elt [⟨target, iter, ifs, 0⟩] scope pos) 0 it acc env).onRaise (fun x => do noteFrame x env; theTreesLotGoes x)) _ _ s
  refine wpAny_noted ?_
  rw [compTurn_list]
  refine wpAny_bind (wpAny_standAt (wpAny_bind (wpAny_mono (turn n s hI) (fun r s₁ h₁ => ?_) fun _ _ h' => h'.elim)))
  cases r with
  | none => exact wpAny_pure h₁
  | some v =>
    refine wpAny_bind (wpAny_mono h₁ (fun _ s₁' h₁' => ?_) fun _ _ h' => h'.elim)
    refine wpAny_bind (wpAny_mono h₁' (fun _ s₂ h₂ => wpAny_bind (wpAny_mono h₂ (fun ok s₃ h₃ => ?_) fun _ _ h' => h'.elim)) fun _ _ h' => h'.elim)
    cases ok with
    | false => exact wpAny_pure ⟨rfl, h₃⟩
    | true =>
      exact wpAny_bind (wpAny_bind (wpAny_mono h₃ (fun x s₄ h₄ => wpAny_bind (wpAny_mono h₄ (fun _ s₅ h₅ => wpAny_pure (wpAny_pure ⟨rfl, h₅⟩)) fun _ _ h' => h'.elim)) fun _ _ h' => h'.elim))
end

/-- the tests of a clause -/
def PTs (X : Cx) (ifs : List Expr) (t : TT) : Prop :=
  ∀ (pins : List (Addr × Obj)) (s : Shared) (σ : St) (H : Hp) (Q : Bool → Hp → Prop), Inv X pins σ H s → t σ H Q →
    wpAny (model X.prog X.w) X.A (forIn ifs true fun c r => if r = true then do let ok ← isTrue c X.env (eval c X.env); pure (ForInStep.yield ok) else pure (ForInStep.yield r)) (TP X pins σ Q) X.xe s
theorem pts_one {X : Cx} {c : Expr} {t : TT} (h : PT X c t) : PTs X [c] t := fun pins s σ H Q I q => wpAny_tests_one (h pins s σ H Q I q)

section
variable {X : Cx} {pins : List (Addr × Obj)} {σ : St} {H : Hp} {s2 : Shared} {tg iter elt : Expr} {ifs : List Expr} {sc : Scope} {pos : Pos} {xs : List Str} {g : TG} {tc : TT} {te : TE} {J : It} {fp : List Addr} {it : Addr} {tn : Nat → Heap → Prop}
/-- a list object that stands untracked is taken into the tracked ones -/
theorem HOk.adopt {P : Program} {w : World} {H : Hp} {h : Heap} {a : Addr} {xs : List V} {its : List Value} {n : Nat} (x : HOk P w H h) (hn : H a = none) (hz : xs.length ≤ sizeLine) (r : Vals xs its) (e : h.get? a = some { cls := .type "list", data := .seq its.toArray n }) :
    HOk P w (upd H a (.lst xs)) h := fun b u q => by
  by_cases hb : b = a
  · subst hb; rw [upd_same] at q; cases q; exact ⟨hz, its, n, r, e⟩
  · rw [upd_ne hb] at q
    exact (x b u q).stay (fun c v _ q => q) (fun c q => by rw [upd_ne (ne_of_none q hn)]; exact q) fun c xs q => by rw [upd_ne (ne_of_none q hn)]; exact q

theorem comp_core {E : Value → Shared → Prop} {RR : Value → Addr → Result → Shared → Prop} (S : CScope X xs sc) (hcalm : X.calm = true)
    (hg : ∀ ex s3 H3, PG (cxC X xs sc ex s3 H3) tg g) (ht : ∀ ex s3 H3, PTs (cxC X xs sc ex s3 H3) ifs tc) (he : ∀ ex s3 H3, PE (cxC X xs sc ex s3 H3) elt te)
    (I : Inv X pins σ H s2) (T : Turn X.prog X.w X.K tg J fp it tn) (st : tn 0 s2.heap) (f2 : ∀ b ∈ fp, FpOk X pins H b)
    (W : Nat → Nat → List V → Hp → Prop) (w0 : ∃ m, W 0 m [] H) (F : List V → Hp → Prop)
    (turn : ∀ i m acc H, W i m acc H → (J.stop i H ∧ acc.length ≤ sizeLine ∧ F acc H) ∨
      (J.go i H ∧ acc.length < sizeLine ∧ ∃ N : List V → Hp → Prop, (∀ acc' H', N acc' H' → ∃ m', m' < m ∧ W (i + 1) m' acc' H') ∧ ∀ x H', J.yld i H x H' → g x (List.replicate xs.length none ++ σ) H' fun σ2 H2 => σ2.drop xs.length = σ ∧ tc σ2 H2 fun c H3 =>
        if c = true then te σ2 H3 fun y H4 => N (acc ++ [y]) H4 else N acc H3))
    (fin : ∀ D C s' acc H', (∃ m, s'.heap.Ns C m) → FpOk X pins (upd H' D (.lst acc)) C → F acc H' → H' D = none → Inv X pins σ (upd H' D (.lst acc)) s' → RR (.ref D) C (.ok .next) s') :
    wpAny (model X.prog X.w) X.A (newList []) (fun acc s3 => wpAny (model X.prog X.w) X.A (newFunctionEnv sc X.env.globals (clF X.env.cells sc.names []) [] X.env.qual none .none (some X.env)) (fun cenv s4 =>
      codeAny (model X.prog X.w) X.A (.compStart (.ListComp elt [⟨tg, iter, ifs, 0⟩] sc pos) 0 (.ref it) acc { cenv with scope := relabel sc X.env }) (RR acc cenv.locals) s4) E s3) E s2 := by
  refine wpAny_newObj_type (wpAny_newFunctionEnv S.nocell (by intro y hy; simp at hy) (fun h₁ hns₁ hsb₁ => ?_) S.kind)
  dsimp only at hns₁ hsb₁ ⊢
  generalize hH3 : s2.heap.push { cls := .type "list", dict := none, data := .seq ([] : List Value).toArray } = H3 at hns₁ hsb₁ ⊢
  have hC : H3.objs.size = s2.heap.objs.size + 1 := by rw [← hH3, Heap.size_push]
  have hDC : s2.heap.objs.size ≠ H3.objs.size := by rw [hC]; exact Nat.ne_of_lt (Nat.lt_succ_self _)
  have old3 : ∀ b o, s2.heap.get? b = some o → H3.get? b = some o := fun b o e => hH3 ▸ Heap.get?_push_of_some _ e
  have k1 : ∀ b o, H3.get? b = some o → h₁.get? b = some o := fun b o e => hsb₁.extBut b o (Nat.ne_of_lt (Heap.lt_size e)) (Heap.get?_push_of_some _ e)
  have I3 : Inv X pins σ H { s2 with heap := H3 } := I.kept old3
  have fpLt : ∀ b ∈ fp, b < s2.heap.objs.size := fun b hb => by
    obtain ⟨o, e, _⟩ := T.obj _ _ st b hb
    exact Heap.lt_size e
  have hnofr : ∀ b, s2.heap.objs.size ≤ b → b ∉ frs X.stack := fun b hb z => by
    rcases List.mem_cons.mp (I.stkSub b z) with q | q
    · exact absurd (Nat.lt_of_lt_of_le I.lt hb) (by rw [q]; exact Nat.lt_irrefl _)
    · exact I.nofs hb q
  have hnocell : ∀ b, s2.heap.objs.size ≤ b → ∀ x c, X.env.cells.lookup x = some c → c ≠ b := fun b hb x c e z => by
    obtain ⟨v, q⟩ := I.cell x c e
    exact absurd (Nat.lt_of_lt_of_le q.lt (by rw [z]; exact hb)) (Nat.lt_irrefl _)
  have hnobase : ∀ b, s2.heap.objs.size ≤ b → X.base.get? b = none := fun b hb => Heap.get?_none_of_le (Nat.le_trans (Nat.le_trans I.ok.bsz I.sz) hb)
  have fpfr : ∀ b ∈ fp, b ∉ frs X.stack := fun b hb z => by
    rcases List.mem_cons.mp (I.stkSub b z) with q | q
    · exact (f2 b hb).2.1 q
    · exact (f2 b hb).2.2.1 q
  have fpbase : ∀ b ∈ fp, X.base.get? b = none := fun b hb => by
    rcases (f2 b hb).2.2.2.1 with z | z
    · cases e : X.base.get? b with
      | none => rfl
      | some o => exact absurd z (I.ok.noex b o e)
    · exact Heap.get?_none_of_le (Nat.le_trans I.ok.bsz z)
  have hex : ∀ b ∈ (s2.heap.objs.size :: fp), b < H3.objs.size ∧ b ∉ frs X.stack ∧ (∀ x c, X.env.cells.lookup x = some c → c ≠ b) ∧ X.base.get? b = none := fun b hb => by
    rcases List.mem_cons.mp hb with z | z
    · subst z
      exact ⟨by rw [hC]; exact Nat.lt_succ_self _, hnofr _ (Nat.le_refl _), hnocell _ (Nat.le_refl _), hnobase _ (Nat.le_refl _)⟩
    · exact ⟨by rw [hC]; exact Nat.lt_succ_of_lt (fpLt b z), fpfr b z, (f2 b z).2.2.2.2.1, fpbase b z⟩
  have I4 := inv_comp (ex := s2.heap.objs.size :: fp) (tk := s2.toks + ([] : List (Str × Value)).length) S I3 hex hns₁ k1
  generalize hX' : cxC X xs sc (s2.heap.objs.size :: fp) { s2 with heap := H3 } H = X' at I4
  have hDn : H s2.heap.objs.size = none := I.hok.fresh (Nat.le_refl _)
  have hDobj : h₁.get? s2.heap.objs.size = some { cls := .type "list", data := .seq (([] : List Value)).toArray 0 } := k1 _ _ (hH3 ▸ Heap.get?_push_size _ rfl)
  have st1 : tn 0 h₁ := T.keep _ _ _ st fun b _ o e => k1 b o (old3 b o e)
  obtain ⟨m0, w0⟩ := w0
  -- the block's facts about D and the iterator, whatever the state
  have eXex : X'.ex = s2.heap.objs.size :: fp := by rw [← hX']; rfl
  have eXloc : X'.env.locals = H3.objs.size := by rw [← hX']; rfl
  have eXfs : X'.fs = frs X.stack := by rw [← hX']; rfl
  have eXcl : X'.env.cells = clF X.env.cells sc.names [] := by rw [← hX']; rfl
  have eXpn : X'.pn = [] := by rw [← hX']; rfl
  have eXm : X'.prog = X.prog ∧ X'.w = X.w ∧ X'.K = X.K ∧ X'.calm = true ∧ X'.A = X.A ∧ X'.xe = fun _ _ => False := by rw [← hX']; exact ⟨rfl, rfl, rfl, hcalm, rfl, rfl⟩
  obtain ⟨eP, ew, eK, ec, eA, exe⟩ := eXm
  have envE : X'.env = { newEnv sc H3.objs.size X.env.globals (clF X.env.cells sc.names []) X.env.qual none .none (some X.env) builtinsNs with scope := relabel sc X.env } := by rw [← hX']; rfl
  have hg' : PG X' tg g := hX' ▸ hg _ _ _
  have ht' : PTs X' ifs tc := hX' ▸ ht _ _ _
  have he' : PE X' elt te := hX' ▸ he _ _ _
  have hs0 : X'.s₀.heap = H3 := by rw [← hX']; rfl
  have hH0 : X'.H₀ = H := by rw [← hX']; rfl
  have hos : X'.s₀.os = s2.os := by rw [← hX']; rfl
  have loop : ∀ s₃ : Shared, s₃ = { s2 with heap := h₁, toks := s2.toks + ([] : List (Str × Value)).length } →
      codeAny (model X.prog X.w) X.A (.compLoop (.ListComp elt [⟨tg, iter, ifs, 0⟩] sc pos) 0 (.ref it) (.ref s2.heap.objs.size) X'.env) (RR (.ref s2.heap.objs.size) H3.objs.size) s₃ := by
    rintro s₃ rfl
    refine compLoop_of (fun n s' => ∃ i acc its k H', Inv X' [] (List.replicate xs.length none ++ σ) H' s' ∧ tn i s'.heap ∧ (∀ b ∈ fp, H' b = none) ∧ H' s2.heap.objs.size = none ∧ Vals acc its ∧
      s'.heap.get? s2.heap.objs.size = some { cls := .type "list", data := .seq its.toArray k } ∧ W i n acc H') ?_ m0
      ⟨0, [], [], 0, H, I4, st1, fun b hb => (f2 b hb).1, hDn, .nil, hDobj, w0⟩
    rintro n s' ⟨i, acc, its, k, H', I', st', fr', hD', rv, hobj, w'⟩
    have fpok : ∀ {o : Obj} {H'' : Hp}, (∀ b ∈ fp, H'' b = none) → ∀ b ∈ fp, FpOk X' [(s2.heap.objs.size, o)] H'' b := fun {o H''} hn b hb => by
      refine ⟨hn b hb, by rw [eXloc, hC]; exact Nat.ne_of_lt (Nat.lt_succ_of_lt (fpLt b hb)), by rw [eXfs]; exact fpfr b hb, .inl (by rw [eXex]; exact List.mem_cons_of_mem _ hb), fun x c e => ?_, fun p hp => ?_⟩
      · rw [eXcl] at e
        exact (f2 b hb).2.2.2.2.1 x c (clF_lookup e).1
      · rw [eXpn] at hp
        have : p = (s2.heap.objs.size, o) := by simpa using hp
        rw [this]
        exact Nat.ne_of_gt (fpLt b hb)
    have pinD : ∀ {H'' : Hp} {s'' : Shared} {σ'' : St} {o : Obj}, Inv X' [] σ'' H'' s'' → s''.heap.get? s2.heap.objs.size = some o → (∀ v, o.data ≠ .cell v) → H'' s2.heap.objs.size = none → Inv X' [(s2.heap.objs.size, o)] σ'' H'' s'' := fun {H'' s'' σ'' o} J e d hn =>
      J.pins_of fun p hp => by
        have : p = (s2.heap.objs.size, o) := by simpa using hp
        rw [this]
        exact ⟨e, hn, by rw [eXloc]; exact hDC, by rw [eXfs]; exact hnofr _ (Nat.le_refl _), d⟩
    have J := pinD I' hobj (fun v => by intro z; cases z) hD'
    rw [← eP, ← ew, ← eA]
    rcases turn i n acc H' w' with ⟨stop, hz, hF⟩ | ⟨go, hz, N, hN, step⟩
    · have q1 : wpAny (model X'.prog X'.w) X'.A (pyNext (.ref it)) (fun r s1 => r = none ∧ Inv X' [(s2.heap.objs.size, { cls := .type "list", data := .seq its.toArray k })] (List.replicate xs.length none ++ σ) H' s1) (fun _ _ => False) s' := by
        have := T.done X' eP ew eK ec i _ s' _ H' (fun _ _ => False) J (fpok fr') st' stop
        rw [eP, ew]; exact this
      refine thn q1 fun r s1 h1 => ?_
      obtain ⟨hr, J1⟩ := h1
      subst hr
      have e1 := J1.pin (s2.heap.objs.size, { cls := .type "list", data := .seq its.toArray k }) (List.mem_append_right _ List.mem_cons_self)
      -- back to the block around
      have un : Un (frs X.stack) (s2.heap.objs.size :: fp) H H' H3 s1.heap := by
        have := J1.base
        rw [eXfs, eXex, hH0, hs0] at this
        exact this
      have hok1 : HOk X.prog X.w H' s1.heap := by have := J1.hok; rw [eP, ew] at this; exact this
      obtain ⟨mC, hmC, _⟩ := J1.loc
      have hmC' : s1.heap.Ns H3.objs.size mC := by rw [eXloc] at hmC; exact hmC
      have hCfree : H' H3.objs.size = none := by have := J1.free; rw [eXloc] at this; exact this
      refine fin _ _ s1 acc H' ⟨mC, hmC'⟩ ?_ hF e1.2.1 ?_
      · refine I.fpOk (by rw [hC]; exact Nat.le_succ _) ?_
        rw [upd_ne (Ne.symm hDC)]
        exact hCfree
      · refine I.call' (ch := fp) (J1.os.trans hos) ?_ (hok1.adopt e1.2.1 hz rv e1.1) J1.bare fun b hb => ⟨(f2 b hb).2.2.2.1, (f2 b hb).2.1, (f2 b hb).2.2.2.2.1, (f2 b hb).2.2.2.2.2⟩
        have below : ∀ b o, s2.heap.get? b = some o → b ≠ s2.heap.objs.size := fun b o e => Nat.ne_of_lt (Heap.lt_size e)
        have nin : ∀ b o, s2.heap.get? b = some o → b ∉ fp → b ∉ s2.heap.objs.size :: fp := fun b o e hb z => (List.mem_cons.mp z).elim (below b o e) hb
        have trkne : ∀ b u, H b = some u → b ≠ s2.heap.objs.size := fun b u e z => by rw [z, hDn] at e; cases e
        refine ⟨fun b o e n hf hb => un.keep b o (old3 b o e) n hf (nin b o e hb), fun b o e n hf hb => un.slot b o (old3 b o e) n hf (nin b o e hb), fun b o e n hb => ?_, fun b o e hb => un.there b o (old3 b o e) (nin b o e hb), fun b ys e => ?_, fun b o u e => ?_, fun b ps e => ?_⟩
        · rw [upd_ne (below b o e)]; exact un.free b o (old3 b o e) n (nin b o e hb)
        · rw [upd_ne (trkne b _ e)]; exact un.tups b ys e
        · rw [upd_ne (trkne b _ e)]; exact un.frzs b o u e
        · rw [upd_ne (trkne b _ e)]; exact un.tbls b ps e
    · have q1 := T.item X' eP ew eK ec i _ s' _ H' (fun _ _ => False) J (fpok fr') st' go
      rw [← eP, ← ew] at q1
      have q2 := q1
      refine thn q2 fun r s1 h1 => ?_
      obtain ⟨u, hr, h4⟩ := h1
      subst hr
      dsimp only
      refine thn h4 fun _ s5 ⟨x, H5, J5, r5, y5, st5, fr5⟩ => ?_
      have J5' := J5.pinned (fpok fr5) (T.obj _ _ st5)
      have q5 := hg' _ s5 _ H5 x u _ J5' r5 (step x H5 y5)
      rw [exe] at q5
      refine thn q5 fun _ s6 ⟨σ6, H6, J6, hσ, q6⟩ => ?_
      have q7 := ht' _ s6 σ6 H6 _ J6 q6
      rw [exe] at q7
      refine thn q7 fun ok s7 ⟨H7, J7, q7⟩ => ?_
      -- the state behind a turn
      have lenσ : ∀ {H8 : Hp} {s8 : Shared} {pl : List (Addr × Obj)}, Inv X' pl σ6 H8 s8 → (List.replicate xs.length none ++ σ).length = σ6.length := fun {H8 s8 pl} J8 => J6.len.symm ▸ I4.len
      have weak : ∀ {H8 : Hp} {s8 : Shared} {pl : List (Addr × Obj)}, Inv X' pl σ6 H8 s8 → Inv X' pl (List.replicate xs.length none ++ σ) H8 s8 := fun {H8 s8 pl} J8 => by
        refine J8.weak (lenσ J8) fun j v e => ?_
        by_cases hj : j < xs.length
        · rw [List.getElem?_append_left (by simpa using hj), List.getElem?_replicate, if_pos hj] at e
          cases e
        · have hj' : xs.length ≤ j := Nat.le_of_not_lt hj
          rw [List.getElem?_append_right (by simpa using hj'), List.length_replicate, ← hσ, List.getElem?_drop] at e
          rw [← e]
          congr 1
          omega
      have back : ∀ {H8 : Hp} {s8 : Shared}, Inv X' ([(s2.heap.objs.size, { cls := .type "list", data := .seq its.toArray k })] ++ pinsAt fp s5.heap) σ6 H8 s8 →
          Inv X' [] (List.replicate xs.length none ++ σ) H8 s8 ∧ tn (i + 1) s8.heap ∧ (∀ b ∈ fp, H8 b = none) ∧ H8 s2.heap.objs.size = none ∧ s8.heap.get? s2.heap.objs.size = some { cls := .type "list", data := .seq its.toArray k } := fun {H8 s8} J8 => by
        have eD := J8.pin (s2.heap.objs.size, { cls := .type "list", data := .seq its.toArray k }) (List.mem_append_right _ (List.mem_append_left _ List.mem_cons_self))
        refine ⟨(weak J8).pins_of fun p hp => absurd hp (by simp), T.keep _ _ _ st5 fun b hb o e => (J8.pin (b, o) (List.mem_append_right _ (List.mem_append_right _ (mem_pinsAt hb e)))).1, fun b hb => ?_, eD.2.1, eD.1⟩
        obtain ⟨o, e, d⟩ := T.obj _ _ st5 b hb
        exact (J8.pin (b, o) (List.mem_append_right _ (List.mem_append_right _ (mem_pinsAt hb e)))).2.1
      cases ok with
      | false =>
        simp only [Bool.false_eq_true, if_false] at q7 ⊢
        obtain ⟨m', hm, w7⟩ := hN _ _ q7
        obtain ⟨a1, a2, a3, a4, a5⟩ := back J7
        exact ⟨m', hm, i + 1, acc, its, k, H7, a1, a2, a3, a4, rv, a5, w7⟩
      | true =>
        simp only [if_true] at q7 ⊢
        have q8 := he' _ s7 σ6 H7 _ J7 q7
        rw [exe] at q8
        refine thn q8 fun u8 s8 ⟨y, H8, J8, r8, q9⟩ => ?_
        obtain ⟨m', hm, w8⟩ := hN _ _ q9
        obtain ⟨a1, a2, a3, a4, a5⟩ := back J8
        have hits : its.length = acc.length := rv.length.symm
        refine wpAny_list_append_plain (hsz := by show its.toArray.size ≤ sizeLine; rw [List.size_toArray, hits]; exact Nat.le_of_lt hz) ⟨k, a5⟩ fun h9 hl9 hs9 => ?_
        obtain ⟨k9, e9⟩ := hl9
        refine ⟨m', hm, i + 1, acc ++ [y], its ++ [u8], k9, H8, ?_, ?_, a3, a4, rv.append (.cons r8 .nil), ?_, w8⟩
        · exact a1.turned (t' := s8.toks) (fun b o hb e => hs9.extBut b o hb e) a4 (by rw [eXloc]; exact hDC) (.inl (by rw [eXex]; exact List.mem_cons_self)) (fun x c e => by rw [eXcl] at e; exact hnocell _ (Nat.le_refl _) x c (clF_lookup e).1) (fun p hp => by rw [eXpn] at hp; simp at hp)
        · exact T.keep _ _ _ a2 fun b hb o e => hs9.extBut b o (Nat.ne_of_lt (fpLt b hb)) e
        · rw [e9]
          congr 2
          simp
  rw [show { newEnv sc H3.objs.size X.env.globals (clF X.env.cells sc.names []) X.env.qual none .none (some X.env) builtinsNs with scope := relabel sc X.env } = X'.env from envE.symm]
  exact codeAny_compStart_list (loop _ rfl) (T.self X.A 0 _ _ _ st1 (loop _ rfl))
end
end L2

namespace L2
open PySem PySem.Spec PyProof.Rows

/-- [elt for tg in iter if ..]: W the word by the turn, a measure, and what is gathered -/
def LCW (n : Nat) (J : It) (g : TG) (tc : TT) (te : TE) (σ : St) (H1 : Hp) (F : List V → Hp → Prop) : Prop :=
  ∃ W : Nat → Nat → List V → Hp → Prop, (∃ m, W 0 m [] H1) ∧ ∀ i m acc H, W i m acc H → (J.stop i H ∧ acc.length ≤ sizeLine ∧ F acc H) ∨
    (J.go i H ∧ acc.length < sizeLine ∧ ∃ N : List V → Hp → Prop, (∀ acc' H', N acc' H' → ∃ m', m' < m ∧ W (i + 1) m' acc' H') ∧ ∀ x H', J.yld i H x H' → g x (List.replicate n none ++ σ) H' fun σ2 H2 => σ2.drop n = σ ∧ tc σ2 H2 fun c H3 =>
      if c = true then te σ2 H3 fun y H4 => N (acc ++ [y]) H4 else N acc H3)
def tLC (n : Nat) (wi : TI) (g : TG) (tc : TT) (te : TE) : TE := fun σ H Q => wi σ H fun J H1 => LCW n J g tc te σ H1 fun acc H => ∀ p, H p = none → Q (.ref p) (upd H p (.lst acc))

section
variable {X : Cx} {tg iter elt : Expr} {ifs : List Expr} {sc : Scope} {pos : Pos} {xs : List Str} {wi : TI} {g : TG} {tc : TT} {te : TE}
theorem FpOk.turn {pins : List (Addr × Obj)} {σ : St} {H : Hp} {s : Shared} {C : Addr} {h' : Heap} (f : FpOk X pins H C) (I : Inv X pins σ H s) (hs : Heap.SameBut C s.heap h') : Inv X pins σ H { s with heap := h' } :=
  I.turned (t' := s.toks) (fun b o hb e => hs.extBut b o hb e) f.1 f.2.1 f.2.2.2.1 f.2.2.2.2.1 f.2.2.2.2.2
theorem pe_comp (S : CScope X xs sc) (hc : X.calm = true) (hi : PI X tg iter wi) (hg : ∀ ex s3 H3, PG (cxC X xs sc ex s3 H3) tg g) (ht : ∀ ex s3 H3, PTs (cxC X xs sc ex s3 H3) ifs tc) (he : ∀ ex s3 H3, PE (cxC X xs sc ex s3 H3) elt te)
    (hs : ∀ x, foldedSetIterable iter X.env x = pure x := by intro _; rfl) : PE X (.ListComp elt [⟨tg, iter, ifs, 0⟩] sc pos) (tLC xs.length wi g tc te) := by
  intro pins s σ H Q I h
  rw [eval_ListComp]
  refine wpAny_comprehension_free (use := none) rfl hs (closure_eq (S.cells I.ok)) S.kind S.names (thn (hi pins s σ H _ I h) fun v s1 h1 => thn h1 fun itv s2 h2 => ?_)
  obtain ⟨it, fp, tn, J, H2, e, I2, T, st2, f2, W, w0, turn⟩ := h2
  subst e
  refine comp_core (RR := fun acc C => compPost (model X.prog X.w) X.A X.xe none (EP X pins σ Q) acc C) S hc hg ht he I2 T st2 f2 W w0 _ turn fun D C s' acc H' hns fC hF hD IF => ?_
  obtain ⟨m, hm⟩ := hns
  exact ⟨m, hm, fun h' hs' => ⟨.ref D, _, fC.turn IF hs', rfl, hF D hD⟩⟩
/-- x = [..], the name stored ahead of the block's own names let go -/
theorem ps_comp {i : Nat} {y : Str} {pos' spos : Pos} (S : CScope X xs sc) (hc : X.calm = true) (hN : X.N.Nodup) (hy : X.N[i]? = some y) (hk : X.env.scope.names.lookup y = some .local)
    (hi : PI X tg iter wi) (hg : ∀ ex s3 H3, PG (cxC X xs sc ex s3 H3) tg g) (ht : ∀ ex s3 H3, PTs (cxC X xs sc ex s3 H3) ifs tc) (he : ∀ ex s3 H3, PE (cxC X xs sc ex s3 H3) elt te)
    (hsw : swapsWith (.ListComp elt [⟨tg, iter, ifs, 0⟩] sc pos) (some (.Name y pos')) spos.line X.env = pure true := by rfl)
    (hs : ∀ x, foldedSetIterable iter X.env x = pure x := by intro _; rfl) : PS X (.Assign [.Name y pos'] (.ListComp elt [⟨tg, iter, ifs, 0⟩] sc pos) spos) (tAsg (tLC xs.length wi g tc te) (gName i)) := by
  intro pins s σ H D I h
  rw [exec_Assign_Name_used _ _ _ _ hsw]
  refine wpAny_bind (wpAny_standAt (wpAny_bind ?_))
  show wpAny _ X.A (do let _ ← comprehension (.ListComp elt [⟨tg, iter, ifs, 0⟩] sc pos) sc X.env _ (newList []) false (eval iter X.env) (some (assign (.Name y pos') X.env))) _ _ s
  refine wpAny_bind (wpAny_mono (wpAny_comprehension_free (use := some (assign (.Name y pos') X.env)) (Q := fun _ s' => SP X pins D .next s') rfl hs (closure_eq (S.cells I.ok)) S.kind S.names
    (thn (hi pins s σ H _ I h) fun v s1 h1 => thn h1 fun itv s2 h2 => ?_)) (fun _ s' hq => wpAny_pure (wpAny_pure hq)) fun _ _ e => e)
  obtain ⟨it, fp, tn, J, H2, e, I2, T, st2, f2, W, w0, turn⟩ := h2
  subst e
  refine comp_core (RR := fun acc C => compPost (model X.prog X.w) X.A X.xe (some (assign (.Name y pos') X.env)) (fun _ s' => SP X pins D .next s') acc C) S hc hg ht he I2 T st2 f2 W w0 _ turn fun D' C s' acc H' hns fC hF hD IF => ?_
  obtain ⟨m, hm⟩ := hns
  refine wpAny_assign_Name (store_ok2 (v := .ref D') IF hN hy (.inl hk) rfl (fun s'' I'' hsb => ?_) (.inr hk))
  obtain ⟨a, hsb, ha⟩ := hsb
  have hne : C ≠ a := by
    rcases ha with z | z
    · rw [z]; exact fC.2.1
    · exact fun q => fC.2.2.2.2.1 y a z q.symm
  refine ⟨m, hm.sameBut hsb hne, fun h' hs' => ⟨_, _, fC.turn I'' hs', hF D' hD⟩⟩
end

/-! ### the forms one uses -/
theorem lc_list {K : PySem.W.Frag} {a : Addr} {xs : List V} {n : Nat} {g : TG} {tc : TT} {te : TE} {σ : St} {H : Hp} {F : List V → Hp → Prop} (Pv : Nat → List V → Hp → Prop) (hn : xs.length ≤ 1000000) (h0 : Pv 0 [] H)
    (hl : ∀ i acc H, i ≤ xs.length → Pv i acc H → SqL K H a xs ∧ acc.length ≤ i)
    (hs : ∀ i x acc H, xs[i]? = some x → Pv i acc H → g x (List.replicate n none ++ σ) H fun σ2 H2 => σ2.drop n = σ ∧ tc σ2 H2 fun c H3 => if c = true then te σ2 H3 fun y H4 => Pv (i + 1) (acc ++ [y]) H4 else Pv (i + 1) acc H3)
    (hd : ∀ acc H, Pv xs.length acc H → F acc H) : LCW n (Itl K a) g tc te σ H F := by
  have sz : (1000000 : Nat) < sizeLine := by rw [sizeLine_eq]; decide
  refine ⟨fun i m acc H => m = xs.length - i ∧ i ≤ xs.length ∧ Pv i acc H, ⟨xs.length, by simp, Nat.zero_le _, h0⟩, ?_⟩
  rintro i m acc H ⟨rfl, hi, p⟩
  have q := hl i acc H hi p
  by_cases hlt : i < xs.length
  · refine .inr ⟨⟨xs, xs[i], q.1, by simp [hlt]⟩, by omega, Pv (i + 1), fun acc' H' p' => ⟨xs.length - (i + 1), by omega, rfl, hlt, p'⟩, fun x H' y => ?_⟩
    obtain ⟨e, y⟩ := y
    subst e
    exact hs i x acc _ (y xs q.1) p
  · have e : i = xs.length := by omega
    subst e
    exact .inl ⟨⟨xs, q.1, Nat.le_refl _⟩, by omega, hd acc H p⟩
theorem lc_range {lo : Int} {k : Nat} {n : Nat} {g : TG} {tc : TT} {te : TE} {σ : St} {H : Hp} {F : List V → Hp → Prop} (Pv : Nat → List V → Hp → Prop) (hn : k ≤ 1000000) (h0 : Pv 0 [] H)
    (hl : ∀ i acc H, i ≤ k → Pv i acc H → acc.length ≤ i)
    (hs : ∀ i acc H, i < k → Pv i acc H → g (.int (lo + i)) (List.replicate n none ++ σ) H fun σ2 H2 => σ2.drop n = σ ∧ tc σ2 H2 fun c H3 => if c = true then te σ2 H3 fun y H4 => Pv (i + 1) (acc ++ [y]) H4 else Pv (i + 1) acc H3)
    (hd : ∀ acc H, Pv k acc H → F acc H) : LCW n (Itr lo k) g tc te σ H F := by
  have sz : (1000000 : Nat) < sizeLine := by rw [sizeLine_eq]; decide
  refine ⟨fun i m acc H => m = k - i ∧ i ≤ k ∧ Pv i acc H, ⟨k, by simp, Nat.zero_le _, h0⟩, ?_⟩
  rintro i m acc H ⟨rfl, hi, p⟩
  have q := hl i acc H hi p
  by_cases hlt : i < k
  · refine .inr ⟨hlt, by omega, Pv (i + 1), fun acc' H' p' => ⟨k - (i + 1), by omega, rfl, hlt, p'⟩, fun x H' y => ?_⟩
    obtain ⟨e, y⟩ := y
    subst e y
    exact hs i acc _ hlt p
  · have e : i = k := by omega
    subst e
    exact .inl ⟨Nat.le_refl _, by omega, hd acc H p⟩
end L2

namespace L2
open PySem PySem.Spec PyProof.Rows

section
variable {prog : Program} {w : World} {A : Around} {E : Value → Shared → Prop} {s : Shared}
end

section
variable {X : Cx} {pos : Pos}
/-- isinstance(x, T), T a built-in type -/
theorem call_isinst : CallR X (.builtin "isinstance") (fun xs H Q => ∃ x n t b, xs = [x, .ty n] ∧ TyOf X.K H x t ∧ PySem.W.kitOne X.K t (.type n) = some b ∧ Q (.bl b) H) := by
  intro pins s σ H xs us Q I r h
  obtain ⟨x, n, t, b, rfl, ty, e, q⟩ := h
  obtain ⟨u, v, rfl, rx, ry⟩ := vals2 r
  obtain rfl : v = Value.type n := ry
  exact isinst_ok I rx ty e fun tk => ⟨.bl b, H, I.tok tk, rfl, q⟩
/-- n.bit_length() -/
theorem mt_bitlen : MtR X "int.bit_length" (fun x xs H Q => ∃ i, x = .int i ∧ xs = [] ∧ Q (.int ((Builtin.Int.intBits i : Nat) : Int)) H) := by
  intro pins s σ H x xs v us Q I rx rs h
  obtain ⟨i, rfl, rfl, q⟩ := h
  obtain ⟨t, rfl⟩ := rx
  cases rs
  exact call_int_bit_length ⟨.int _, H, I.tok _, ⟨_, rfl⟩, q⟩
/-- two lists of ints compared -/
def rEqL (K : PySem.W.Frag) (neg : Bool) : R2 := fun x y H Q => ∃ (a b : Addr) (ns ms : List Int), x = .ref a ∧ y = .ref b ∧ SqL K H a (ns.map V.int) ∧ SqL K H b (ms.map V.int) ∧ Q (.bl (if neg then !decide (ns = ms) else decide (ns = ms))) H
theorem op_eqL (hu : X.A.units + 64 < cLine) : OpR X (compareOp .Eq) (rEqL X.K false) := by
  intro pins s σ H x y v u Q I rx ry h
  obtain ⟨a, b, ns, ms, rfl, rfl, h1, h2, q⟩ := h
  cases rx; cases ry
  obtain ⟨its, rv, pl, _⟩ := I.list h1
  obtain ⟨its', rv', pl', _⟩ := I.list h2
  exact PySem.W.eq_intsK pl.isList (intsAre_of rv) pl'.isList (intsAre_of rv') hu ⟨.bl _, H, I, rfl, q⟩
theorem op_neL (hu : X.A.units + 64 < cLine) : OpR X (compareOp .NotEq) (rEqL X.K true) := by
  intro pins s σ H x y v u Q I rx ry h
  obtain ⟨a, b, ns, ms, rfl, rfl, h1, h2, q⟩ := h
  cases rx; cases ry
  obtain ⟨its, rv, pl, _⟩ := I.list h1
  obtain ⟨its', rv', pl', _⟩ := I.list h2
  exact PySem.W.ne_intsK pl.isList (intsAre_of rv) pl'.isList (intsAre_of rv') hu ⟨.bl _, H, I, rfl, q⟩
end
end L2

namespace L2
open PySem PySem.Spec PyProof.Rows

/-! ### small words -/
/-- all but what stands at st is as it was -/
def But (st : Addr) (H H' : Hp) : Prop := ∀ b o, H b = some o → b ≠ st → H' b = some o
theorem But.refl (st : Addr) (H : Hp) : But st H H := fun _ _ h _ => h
theorem But.trans {st : Addr} {H H1 H2 : Hp} (a : But st H H1) (b : But st H1 H2) : But st H H2 := fun c o h n => b c o (a c o h n) n
theorem But.put (st : Addr) (H : Hp) (o : HO) : But st H (upd H st o) := fun b u e n => by rw [upd_ne n]; exact e
theorem Same.but {st : Addr} {H H' : Hp} (e : Same H H') : But st H H' := fun b o h _ => e b o h
theorem Same.new {H : Hp} {p : Addr} {o : HO} (h : H p = none) : Same H (upd H p o) := fun b u e => by rw [upd_ne (ne_of_none e h)]; exact e
theorem But.new {st : Addr} {H : Hp} {p : Addr} {o : HO} (h : H p = none) : But st H (upd H p o) := (Same.new h).but

/-- the law's script and its place: a list of the script and an int -/
def ST (K : PySem.W.Frag) (H : Hp) (st : Addr) (ns : List Int) (k : Nat) : Prop := ∃ sc, H st = some (.lst [.ref sc, .int (k : Int)]) ∧ SqL K H sc (ns.map V.int)
theorem int_ne_ref {ns : List Int} {a : Addr} {r : List V} (h : ns.map V.int = V.ref a :: r) : False := by
  cases ns with
  | nil => cases h
  | cons n m => have := (List.cons.inj h).1; cases this
theorem ST.seq {K : PySem.W.Frag} {H H' : Hp} {st sc : Addr} {ns : List Int} {v : V} (h : H st = some (.lst [.ref sc, v])) (hs : SqL K H sc (ns.map V.int)) (b : But st H H') : SqL K H' sc (ns.map V.int) := by
  rcases hs with (z | ⟨o, z⟩) | z
  · refine .inl (.inl (b _ _ z fun e => ?_))
    subst e
    rw [h] at z
    have := (HO.lst.inj (Option.some.inj z)).symm
    exact int_ne_ref this
  · refine .inl (.inr ⟨o, b _ _ z fun e => ?_⟩)
    subst e
    rw [h] at z
    cases z
  · exact .inr z
theorem ST.same {K : PySem.W.Frag} {H H' : Hp} {st : Addr} {ns : List Int} {k : Nat} (h : ST K H st ns k) (e : Same H H') : ST K H' st ns k := by
  obtain ⟨sc, h1, h2⟩ := h
  exact ⟨sc, e _ _ h1, e.seq h2⟩
theorem ST.new {K : PySem.W.Frag} {H : Hp} {st p : Addr} {ns : List Int} {k : Nat} {o : HO} (h : ST K H st ns k) (hp : H p = none) : ST K (upd H p o) st ns k := h.same (Same.new hp)
theorem ST.start {K : PySem.W.Frag} {H : Hp} {a p : Addr} {ns : List Int} (h : SqL K H a (ns.map V.int)) (hp : H p = none) : ST K (upd H p (.lst [.ref a, .int 0])) p ns 0 :=
  ⟨a, upd_same, (Same.new hp).seq h⟩

theorem nat_of {x : Int} {n : Nat} (h0 : 0 ≤ x) (h1 : x < (n : Int)) : ∃ r : Nat, x = (r : Int) ∧ r < n := ⟨x.toNat, by omega, by omega⟩
theorem shl1 (m : Nat) : (1 : Int) * 2 ^ (m : Int).toNat = ((2 ^ m : Nat) : Int) := by simp
theorem cpow1 {m : Nat} (h : m ≤ 1000) : CPow 1 (m : Int) := ⟨by omega, by omega, by decide⟩
theorem and_lt {a b n : Nat} (h : a < n) : a &&& b < n := Nat.lt_of_le_of_lt Nat.and_le_left h
/-! ### sets as naturals -/
theorem bitAnd_nat (a b : Nat) : Builtin.bitAnd (a : Int) (b : Int) = ((a &&& b : Nat) : Int) := by
  simp [Builtin.bitAnd]
theorem bitNot_not (x : Int) : Builtin.bitNot (Builtin.bitNot x) = x := by unfold Builtin.bitNot; omega
theorem bitOr_nat (a b : Nat) : Builtin.bitOr (a : Int) (b : Int) = ((a ||| b : Nat) : Int) := by
  have ha : ¬ 0 ≤ Builtin.bitNot (a : Int) := by unfold Builtin.bitNot; omega
  have hb : ¬ 0 ≤ Builtin.bitNot (b : Int) := by unfold Builtin.bitNot; omega
  unfold Builtin.bitOr
  simp only [Builtin.bitAnd, ha, hb, decide_false, bitNot_not, Int.toNat_natCast]
theorem two_pow_int (k : Nat) : ((2 : Int) ^ k) = ((2 ^ k : Nat) : Int) := by simp
end L2

namespace L2
open PySem PySem.Spec PyProof.Rows
/-- what is asked of a comprehension's scope, reckoned -/
def cscB (N xs : List Str) (osc sc : Scope) : Bool :=
  decide (sc.kind = .function) && sc.names.all (fun y => decide (y.2 ≠ .cell)) && sc.names.all (fun y => decide (y.2 ≠ .local) || decide (sc.names.lookup y.1 = some .local)) && xs.all (fun x => decide (sc.names.lookup x = some .local)) &&
    N.all (fun y => decide (sc.names.lookup y ≠ some .local)) && sc.names.all (fun y => decide (y.2 ≠ .free) || (decide (osc.names.lookup y.1 = some .cell) || decide (osc.names.lookup y.1 = some .free))) && decide ((xs ++ N).Nodup)
theorem cs {X : Cx} {xs : List Str} {sc : Scope} (N : List Str) (osc : Scope) (hN : X.N = N) (ho : X.env.scope = osc) (h : cscB N xs osc sc = true) : CScope X xs sc := by
  unfold cscB at h
  simp only [Bool.and_eq_true, List.all_eq_true, decide_eq_true_eq, Bool.or_eq_true] at h
  obtain ⟨⟨⟨⟨⟨⟨h1, h2⟩, h3⟩, h4⟩, h5⟩, h6⟩, h7⟩ := h
  refine ⟨h1, h2, fun y hy e => ?_, h4, by rw [hN]; exact h5, fun y hy e => ?_, by rw [hN]; exact h7⟩
  · rcases h3 y hy with z | z
    · exact absurd e z
    · exact z
  · rcases h6 y hy with z | z
    · exact absurd e z
    · show X.env.scope.names.lookup y.1 = _ ∨ X.env.scope.names.lookup y.1 = _
      rw [ho]; exact z
end L2

namespace L2
open PySem PySem.Spec PyProof.Rows
theorem mod_lo (x : Int) {m : Int} (h : 0 < m) : 0 ≤ x % m := Int.emod_nonneg _ (by omega)
theorem mod_hi (x : Int) {m : Int} (h : 0 < m) : x % m < m := Int.emod_lt_of_pos _ h
/-! ### columns of a set, as naturals -/
def vN (k : Nat) : V := V.int (k : Int)
def hasB (a k : Nat) : Bool := decide (a / 2 ^ k % 2 = 1)
def bitsN (a : Nat) : Nat := Builtin.Int.intBits (a : Int)
def colsN (a : Nat) : List Nat := (List.range (bitsN a)).filter (hasB a)
theorem map_int (l : List Nat) : (l.map fun (k : Nat) => (k : Int)).map V.int = l.map vN := by rw [List.map_map]; rfl
theorem bitsN_le {a : Nat} (h : a < 2 ^ 20) : bitsN a ≤ 20 := by
  unfold bitsN Builtin.Int.intBits
  split
  · omega
  · rename_i z
    have h0 : a ≠ 0 := by intro e; subst e; exact z rfl
    have : a.log2 < 20 := (Nat.log2_lt h0).mpr h
    show (a : Int).natAbs.log2 + 1 ≤ 20
    rw [Int.natAbs_natCast]
    omega
theorem dec_nat (a b : Nat) : decide (V.int (a : Int) = V.int (b : Int)) = decide (a = b) := by
  rw [dec_int, Bool.eq_iff_iff, beq_iff_eq, decide_eq_true_iff]
  exact Int.ofNat_inj
def spHas : Sp := fun vs H Q _ => ∃ a k : Nat, vs = [vN a, vN k] ∧ Q (.bl (hasB a k)) H
def spCols : Sp := fun vs H Q _ => ∃ a : Nat, vs = [vN a] ∧ a < 2 ^ 20 ∧ ∀ p, H p = none → Q (.ref p) (upd H p (.lst ((colsN a).map vN)))
def spAllOf : Sp := fun vs H Q _ => ∃ m : Nat, vs = [vN m] ∧ m ≤ 1000 ∧ Q (vN (2 ^ m - 1)) H
theorem has_eq (a k : Nat) : decide (V.int (Builtin.bitAnd ((a : Int) / 2 ^ (k : Int).toNat) 1) = V.int 1) = hasB a k := by
  have e : ((a : Int) / 2 ^ (k : Int).toNat) = ((a / 2 ^ k : Nat) : Int) := by
    rw [Int.toNat_natCast, two_pow_int]; omega
  rw [e, show (1 : Int) = ((1 : Nat) : Int) from rfl, bitAnd_nat, dec_nat, Nat.and_one_is_mod]
  rfl
theorem filt_succ (p : Nat → Bool) (i : Nat) : (List.range (i + 1)).filter p = (List.range i).filter p ++ (if p i = true then [i] else []) := by
  rw [List.range_succ, List.filter_append]
  congr 1
  cases h : p i <;> simp [h]
end L2

namespace L2
open PySem PySem.Spec PyProof.Rows
/-! ### the rules that speak of the written part, with it told (in a comprehension's block it stands under a binder) -/
section
variable {X : Cx} {K : PySem.W.Frag}
theorem ix_listK (h : X.K = K) : IxR X (rIxL K) := h ▸ ix_list
theorem ix_tupK (h : X.K = K) : IxR X (rIxT K) := h ▸ ix_tup
theorem call_lenK (h : X.K = K) : CallR X (.builtin "len") (fun xs H Q => ∃ p ys, xs = [.ref p] ∧ (SqL K H p ys ∨ SqT K H p ys) ∧ Q (.int ys.length) H) := h ▸ call_len_seq
theorem call_isK (h : X.K = K) : CallR X (.builtin "isinstance") (fun xs H Q => ∃ x n t b, xs = [x, .ty n] ∧ TyOf K H x t ∧ PySem.W.kitOne K t (.type n) = some b ∧ Q (.bl b) H) := h ▸ call_isinst
theorem call_listK (h : X.K = K) : CallR X (.type "list") (fun xs H Q => ∃ p ys, xs = [.ref p] ∧ (SqL K H p ys ∨ SqT K H p ys) ∧ ∀ l, H l = none → Q (.ref l) (upd H l (.lst ys))) := h ▸ call_list_of
theorem op_eqLK (h : X.K = K) (hu : X.A.units + 64 < cLine) : OpR X (compareOp .Eq) (rEqL K false) := h ▸ op_eqL hu
theorem op_neLK (h : X.K = K) (hu : X.A.units + 64 < cLine) : OpR X (compareOp .NotEq) (rEqL K true) := h ▸ op_neL hu
theorem pi_listK {tg l : Expr} {tl : TE} (h : X.K = K) (hl : PE X l tl) : PI X tg l (iList K tl) := h ▸ pi_list hl
end
end L2

namespace L2
open PySem PySem.Spec PyProof.Rows
/-! ### arithmetic of naturals -/
def rN (C : Nat → Nat → Prop) (g : Nat → Nat → V) : R2 := fun x y H Q => ∃ i j : Nat, x = vN i ∧ y = vN j ∧ C i j ∧ Q (g i j) H
def rN0 (g : Nat → Nat → V) : R2 := fun x y H Q => ∃ i j : Nat, x = vN i ∧ y = vN j ∧ Q (g i j) H
section
variable {X : Cx}
theorem OpR.mono {f : Value → Value → Sem Value} {r r' : R2} (h : OpR X f r) (k : ∀ x y H Q, r' x y H Q → r x y H Q) : OpR X f r' := fun pins s σ H x y v u Q I rx ry q => h pins s σ H x y v u Q I rx ry (k x y H Q q)
theorem op_addN : OpR X (binaryOp .Add) (rN0 fun i j => vN (i + j)) := op_add.mono fun x y H Q ⟨i, j, h1, h2, q⟩ => ⟨i, j, h1, h2, by show Q (V.int ((i : Int) + j)) H; rw [← Int.natCast_add]; exact q⟩
theorem op_subN : OpR X (binaryOp .Sub) (rN (fun i j => j ≤ i) fun i j => vN (i - j)) := op_sub.mono fun x y H Q ⟨i, j, h1, h2, h, q⟩ => ⟨i, j, h1, h2, by show Q (V.int ((i : Int) - j)) H; rw [← Int.ofNat_sub h]; exact q⟩
theorem op_modN' : OpR X (binaryOp .Mod) (rN (fun _ j => 0 < j) fun i j => vN (i % j)) := op_mod.mono fun x y H Q ⟨i, j, h1, h2, h, q⟩ => ⟨i, j, h1, h2, by omega, by show Q (V.int ((i : Int) % j)) H; rw [← Int.natCast_emod]; exact q⟩
theorem op_fdivN' : OpR X (binaryOp .FloorDiv) (rN (fun _ j => 0 < j ∧ j < 1073741824) fun i j => vN (i / j)) := op_fdiv.mono fun x y H Q ⟨i, j, h1, h2, h, q⟩ => ⟨i, j, h1, h2, ⟨by omega, by omega⟩, by show Q (V.int ((i : Int) / j)) H; rw [← Int.natCast_ediv]; exact q⟩
theorem op_shlN : OpR X (binaryOp .LShift) (rN (fun i j => j ≤ 1000 ∧ i < 2 ^ 64) fun i j => vN (i * 2 ^ j)) := op_shl.mono fun x y H Q ⟨i, j, h1, h2, h, q⟩ => ⟨i, j, h1, h2, ⟨by omega, by omega, by rw [Int.natAbs_natCast]; exact h.2⟩, by
  show Q (V.int ((i : Int) * 2 ^ (j : Int).toNat)) H
  rw [Int.toNat_natCast, two_pow_int, ← Int.natCast_mul]; exact q⟩
/-- 1 << j -/
theorem op_shl1 : OpR X (binaryOp .LShift) (fun x y H Q => ∃ j : Nat, x = .int 1 ∧ y = vN j ∧ j ≤ 1000 ∧ Q (vN (2 ^ j)) H) := op_shlN.mono fun x y H Q ⟨j, h1, h2, h, q⟩ => ⟨1, j, h1, h2, ⟨h, by decide⟩, by show Q (vN (1 * 2 ^ j)) H; rw [Nat.one_mul]; exact q⟩
theorem op_andN : OpR X (binaryOp .BitAnd) (rN0 fun i j => vN (i &&& j)) := op_and.mono fun x y H Q ⟨i, j, h1, h2, q⟩ => ⟨i, j, h1, h2, by show Q (V.int (Builtin.bitAnd (i : Int) j)) H; rw [bitAnd_nat]; exact q⟩
theorem op_orN : OpR X (binaryOp .BitOr) (rN0 fun i j => vN (i ||| j)) := op_or.mono fun x y H Q ⟨i, j, h1, h2, q⟩ => ⟨i, j, h1, h2, by show Q (V.int (Builtin.bitOr (i : Int) j)) H; rw [bitOr_nat]; exact q⟩
theorem op_eqN : OpR X (compareOp .Eq) (rN0 fun i j => .bl (decide (i = j))) := op_eq.mono fun x y H Q ⟨i, j, h1, h2, q⟩ => by
  subst h1 h2
  refine ⟨rfl, ?_⟩
  show Q (V.bl (decide (V.int (i : Int) = V.int (j : Int)))) H
  rw [dec_nat]; exact q
theorem op_neN : OpR X (compareOp .NotEq) (rN0 fun i j => .bl (!decide (i = j))) := op_ne.mono fun x y H Q ⟨i, j, h1, h2, q⟩ => by
  subst h1 h2
  refine ⟨rfl, ?_⟩
  show Q (V.bl (!decide (V.int (i : Int) = V.int (j : Int)))) H
  rw [dec_nat]; exact q
theorem dlt (i j : Nat) : decide ((i : Int) < (j : Int)) = decide (i < j) := by rw [decide_eq_decide]; omega
theorem op_ltN : OpR X (compareOp .Lt) (rN0 fun i j => .bl (decide (i < j))) := op_lt.mono fun x y H Q ⟨i, j, h1, h2, q⟩ => ⟨i, j, h1, h2, by show Q (V.bl (decide ((i : Int) < j))) H; rw [dlt]; exact q⟩
theorem op_gtN : OpR X (compareOp .Gt) (rN0 fun i j => .bl (decide (j < i))) := op_gt.mono fun x y H Q ⟨i, j, h1, h2, q⟩ => ⟨i, j, h1, h2, by show Q (V.bl (decide ((j : Int) < i))) H; rw [dlt]; exact q⟩
end
/-- a range from nought, its numbers as naturals -/
theorem lc_rangeN {k : Nat} {n : Nat} {g : TG} {tc : TT} {te : TE} {σ : St} {H : Hp} {F : List V → Hp → Prop} (Pv : Nat → List V → Hp → Prop) (hn : k ≤ 1000000) (h0 : Pv 0 [] H)
    (hl : ∀ i acc H, i ≤ k → Pv i acc H → acc.length ≤ i)
    (hs : ∀ i acc H, i < k → Pv i acc H → g (vN i) (List.replicate n none ++ σ) H fun σ2 H2 => σ2.drop n = σ ∧ tc σ2 H2 fun c H3 => if c = true then te σ2 H3 fun y H4 => Pv (i + 1) (acc ++ [y]) H4 else Pv (i + 1) acc H3)
    (hd : ∀ acc H, Pv k acc H → F acc H) : LCW n (Itr 0 k) g tc te σ H F :=
  lc_range Pv hn h0 hl (fun i acc H hi p => by rw [Int.zero_add]; exact hs i acc H hi p) hd
theorem for_rangeN {n : Nat} {g : TG} {tb : TS} {D : Ends} {σ : St} {H : Hp} (Pv : Nat → St → Hp → Prop) (h0 : Pv 0 σ H)
    (hs : ∀ i σ H, i < n → Pv i σ H → g (vN i) σ H fun σ2 H2 => tb { D with nx := Pv (i + 1), ct := Pv (i + 1), bk := D.nx } σ2 H2) (hd : ∀ σ H, Pv n σ H → D.nx σ H) :
    ∃ W : Nat → Nat → St → Hp → Prop, (∃ m, W 0 m σ H) ∧ ∀ i m σ H, W i m σ H →
      ((Itr 0 n).stop i H ∧ D.nx σ H) ∨ ((Itr 0 n).go i H ∧ ∃ N : St → Hp → Prop, (∀ σ' H', N σ' H' → ∃ m', m' < m ∧ W (i + 1) m' σ' H') ∧ ∀ x H', (Itr 0 n).yld i H x H' → g x σ H' fun σ2 H2 => tb { D with nx := N, ct := N, bk := D.nx } σ2 H2) :=
  for_range (lo := 0) Pv h0 (fun i σ H hi p => by rw [Int.zero_add]; exact hs i σ H hi p) hd
end L2

namespace L2
open PySem PySem.Spec PyProof.Rows
/-! ### insert, index, sorted; a name let go -/
section
variable {X : Cx} {K : PySem.W.Frag}
theorem call_sortedK (h : X.K = K) : CallR X (.builtin "sorted") (fun xs H Q => ∃ (p : Addr) (ns : List Int), xs = [.ref p] ∧ SqL K H p (ns.map V.int) ∧ ns.length < 64 ∧ ∀ (l : Addr) (ns' : List Int), H l = none → ns'.Perm ns → ns'.Pairwise (· ≤ ·) → Q (.ref l) (upd H l (.lst (ns'.map V.int)))) := by
  subst h
  intro pins s σ H xs us Q I r h
  obtain ⟨p, ns, rfl, hq, h64, q⟩ := h
  obtain ⟨u, rfl, rx⟩ := vals1 r
  cases rx
  obtain ⟨its, rv, pl, hz⟩ := I.list hq
  refine sorted_ints pl.isList (intsAre_of rv) (by rw [← rv.length, List.length_map]; exact h64) fun out ns' a1 a2 a3 => ?_
  obtain ⟨e, he⟩ := sortedAll_at s.heap its out
  refine ⟨.ref (s.heap.objs.size + 1), _, I.laid (t' := s.toks) (fun b o => sortedAll_old) (Nat.le_succ _) (show ObjOk X.prog X.w _ _ _ (.lst (ns'.map V.int)) from ⟨?_, out.toList, e, vals_ints a1, by simpa using he⟩), rfl, q _ ns' (I.hok.fresh (Nat.le_succ _)) a2 a3⟩
  rw [List.length_map, a2.length_eq]
  exact Nat.le_of_lt (small1000 (by omega))
end
/-! ### the law's script and its place, the script frozen: lists of one's own stand apart from it -/
def SqF (K : PySem.W.Frag) (H : Hp) (a : Addr) (ns : List Int) : Prop := (∃ o, H a = some (.frz o (.lst (ns.map V.int)))) ∨
  ∃ (o : Obj) (its : Array Value) (n : Nat), K.lookup a = some o ∧ o.cls = .type "list" ∧ o.dict = none ∧ o.data = .seq its n ∧ its.size ≤ sizeLine ∧ Vals (ns.map V.int) its.toList
theorem SqF.sq {K : PySem.W.Frag} {H : Hp} {a : Addr} {ns : List Int} (h : SqF K H a ns) : SqL K H a (ns.map V.int) := by
  rcases h with ⟨o, h⟩ | h
  · exact .inl (.inr ⟨o, h⟩)
  · exact .inr h
theorem SqF.of {K : PySem.W.Frag} {H : Hp} {a : Addr} {ns : List Int} (hO : Only H) (h : SqL K H a (ns.map V.int)) : SqF K H a ns := by
  rcases h with (h | ⟨o, h⟩) | h
  · rcases hO a with z | ⟨o, xs, z⟩
    · rw [h] at z; cases z
    · rw [h] at z; cases z
  · exact .inl ⟨o, h⟩
  · exact .inr h
theorem SqF.imp {K : PySem.W.Frag} {H H' : Hp} {a : Addr} {ns : List Int} (h : SqF K H a ns) (e : ∀ o, H a = some (.frz o (.lst (ns.map V.int))) → H' a = some (.frz o (.lst (ns.map V.int)))) : SqF K H' a ns := by
  rcases h with ⟨o, h⟩ | h
  · exact .inl ⟨o, e o h⟩
  · exact .inr h
def STF (K : PySem.W.Frag) (H : Hp) (st : Addr) (ns : List Int) (k : Nat) : Prop := ∃ sc, H st = some (.lst [.ref sc, .int (k : Int)]) ∧ SqF K H sc ns
theorem STF.seq {K : PySem.W.Frag} {H H' : Hp} {st sc : Addr} {ns : List Int} {v : V} (h : H st = some (.lst [.ref sc, v])) (hs : SqF K H sc ns) (b : But st H H') : SqF K H' sc ns :=
  hs.imp fun o z => b _ _ z fun e => by
    subst e
    rw [h] at z
    cases z
theorem STF.same {K : PySem.W.Frag} {H H' : Hp} {st : Addr} {ns : List Int} {k : Nat} (h : STF K H st ns k) (e : Same H H') : STF K H' st ns k := by
  obtain ⟨sc, h1, h2⟩ := h
  exact ⟨sc, e _ _ h1, h2.imp fun o z => e _ _ z⟩
theorem STF.new {K : PySem.W.Frag} {H : Hp} {st p : Addr} {ns : List Int} {k : Nat} {o : HO} (h : STF K H st ns k) (hp : H p = none) : STF K (upd H p o) st ns k := h.same (Same.new hp)
theorem STF.start {K : PySem.W.Frag} {H : Hp} {a p : Addr} {ns : List Int} (h : SqF K H a ns) (hp : H p = none) : STF K (upd H p (.lst [.ref a, .int 0])) p ns 0 :=
  ⟨a, upd_same, h.imp fun o z => (Same.new hp) _ _ z⟩
/-- a list of one's own is written -/
theorem STF.put {K : PySem.W.Frag} {H : Hp} {st p : Addr} {ns : List Int} {k : Nat} {xs ys : List V} (h : STF K H st ns k) (hp : H p = some (.lst xs)) (hn : p ≠ st) : STF K (upd H p (.lst ys)) st ns k := by
  obtain ⟨sc, h1, h2⟩ := h
  refine ⟨sc, by rw [upd_ne (Ne.symm hn)]; exact h1, h2.imp fun o z => ?_⟩
  rw [upd_ne]
  · exact z
  · intro e
    subst e
    rw [hp] at z
    cases z
theorem STF.some {K : PySem.W.Frag} {H : Hp} {st : Addr} {ns : List Int} {k : Nat} (h : STF K H st ns k) : ∃ o, H st = some o := by
  obtain ⟨sc, h1, _⟩ := h
  exact ⟨_, h1⟩
theorem But.own {st p : Addr} {H H' : Hp} {o : HO} (b : But st H H') (hp : H p = none) : But st H (upd H' p o) := fun c u e n => by
  rw [upd_ne (ne_of_none e hp)]
  exact b c u e n
def spTakeF (K : PySem.W.Frag) : Sp := fun vs H Q _ => ∃ (st : Addr) (ns : List Int) (k : Nat) (most : Int), vs = [.ref st, .int most] ∧ STF K H st ns k ∧ k ≤ 1000000 ∧ ns.length ≤ 63 ∧ 0 < most ∧
  ∀ (r : Int) (H' : Hp), 0 ≤ r → r < most → STF K H' st ns (k + 1) → But st H H' → Q (.int r) H'
def spSetF (K : PySem.W.Frag) : Sp := fun vs H Q _ => ∃ (st : Addr) (ns : List Int) (k m : Nat), vs = [.ref st, .int (m : Int)] ∧ STF K H st ns k ∧ k ≤ 900000 ∧ ns.length ≤ 63 ∧ 1 ≤ m ∧ m ≤ 7 ∧
  ∀ (r k' : Nat) (H' : Hp), r < 2 ^ m → k' ≤ k + 3 → STF K H' st ns k' → But st H H' → Q (.int (r : Int)) H'
end L2

namespace L2
open PySem PySem.Spec PyProof.Rows
/-! ### ints compared, truths compared, tuples compared, all -/
section
variable {X : Cx} {K : PySem.W.Frag}
end
end L2

namespace L2
open PySem PySem.Spec PyProof.Rows
/-! ### two tuples walked side by side -/
section
variable {prog : Program} {w : World} {A : Around} {E : Value → Shared → Prop} {s : Shared}
def zp1 (h : Heap) (p : Addr) : Heap := h.push { cls := .type "tuple_iterator", data := .fields #[.ref p, .int 0 0] }
def zp2 (h : Heap) (p q : Addr) : Heap := (zp1 h p).push { cls := .type "tuple_iterator", data := .fields #[.ref q, .int 0 0] }
end
/-! ### .. as the layer walks it -/
section
variable {X : Cx} {pins : List (Addr × Obj)} {σ : St} {H : Hp} {s : Shared}
theorem Inv.turnedL {t' : Nat} {h' : Heap} {ch : List Addr} (I : Inv X pins σ H s) (k : ∀ b o, b ∉ ch → s.heap.get? b = some o → h'.get? b = some o) (hf : ∀ b ∈ ch, FpOk X pins H b) : Inv X pins σ H { s with heap := h', toks := t' } := by
  have nit : ∀ b u, H b = some u → b ∉ ch := fun b u e z => by rw [(hf b z).1] at e; cases e
  refine I.step (g' := s.gens) (d' := s.drawn) (ch := ch) (fun b hb => ?_) (fun b o _ _ hc e _ => k b o hc e) (fun b o _ _ hc e _ => ⟨o.slots, k b o hc e⟩) (fun _ _ _ _ n => n) (fun b o hc e => ⟨o, k b o hc e⟩) (fun _ _ e => e) (fun _ _ _ e => e) (fun b ps e => ⟨#[], by rw [e]; simp⟩) (fun m hm => ?_) (fun b u e => ?_) I.bare
  · obtain ⟨f0, f1, f2, f3, f4, f5⟩ := hf b hb
    exact ⟨f3, f1, f4, f5⟩
  · obtain ⟨o, es, ep, ho, r⟩ := hm
    exact ⟨o, es, ep, k _ o (fun z => (hf _ z).2.1 rfl) ho, r⟩
  · refine (I.hok b u e).stay (fun c v hc q => k c v ?_ q) (fun _ q => q) fun _ _ q => q
    rcases hc with z | z
    · rw [z]; exact nit b u e
    · exact nit c _ z
end
end L2

namespace L2
open PySem PySem.Spec PyProof.Rows
/-! ### rows of a book in the heap -/
theorem stf_fresh {K : PySem.W.Frag} {H H1 : Hp} {st p : Addr} {ns : List Int} {k : Nat} (S : STF K H1 st ns k) (B : But st H H1) (hp : H1 p = none) : H p = none ∧ p ≠ st := by
  have hn : p ≠ st := fun e => by
    obtain ⟨o, z⟩ := S.some
    rw [← e, hp] at z; cases z
  refine ⟨?_, hn⟩
  cases e : H p with
  | none => rfl
  | some o => rw [B p o e hn] at hp; cases hp
theorem stf_tup {K : PySem.W.Frag} {H H1 : Hp} {st t : Addr} {ns : List Int} {k : Nat} {xs : List V} (S : STF K H st ns k) (B : But st H H1) (h : H t = some (.tup xs)) : H1 t = some (.tup xs) :=
  B _ _ h fun e => by
    obtain ⟨sc, h1, _⟩ := S
    rw [← e, h] at h1; cases h1
def RowsAt (H : Hp) : List Addr → List (List Int) → Prop
  | [], [] => True
  | t :: ts, r :: rs => H t = some (.tup (r.map V.int)) ∧ RowsAt H ts rs
  | _, _ => False
theorem RowsAt.imp {H H' : Hp} (f : ∀ t xs, H t = some (.tup xs) → H' t = some (.tup xs)) : ∀ {ts : List Addr} {rs : List (List Int)}, RowsAt H ts rs → RowsAt H' ts rs
  | [], [], _ => trivial
  | t :: ts, r :: rs, ⟨h, q⟩ => ⟨f _ _ h, RowsAt.imp f q⟩
  | [], _ :: _, h => h.elim
  | _ :: _, [], h => h.elim
theorem RowsAt.len {H : Hp} : ∀ {ts : List Addr} {rs : List (List Int)}, RowsAt H ts rs → ts.length = rs.length
  | [], [], _ => rfl
  | t :: ts, r :: rs, ⟨_, q⟩ => by rw [List.length_cons, List.length_cons, q.len]
  | [], _ :: _, h => h.elim
  | _ :: _, [], h => h.elim
theorem RowsAt.get {H : Hp} : ∀ {ts : List Addr} {rs : List (List Int)} {i : Nat}, RowsAt H ts rs → i < rs.length → ∃ t r, ts[i]? = some t ∧ rs[i]? = some r ∧ H t = some (.tup (r.map V.int))
  | [], [], i, _, h => absurd h (Nat.not_lt_zero _)
  | t :: ts, r :: rs, 0, ⟨h, _⟩, _ => ⟨t, r, rfl, rfl, h⟩
  | t :: ts, r :: rs, i + 1, ⟨_, q⟩, h => by
    obtain ⟨t', r', a, b, c⟩ := RowsAt.get q (by simpa using h)
    exact ⟨t', r', a, b, c⟩
  | [], _ :: _, _, h, _ => h.elim
  | _ :: _, [], _, h, _ => h.elim
theorem RowsAt.snoc {H : Hp} {t : Addr} {r : List Int} (e : H t = some (.tup (r.map V.int))) : ∀ {ts : List Addr} {rs : List (List Int)}, RowsAt H ts rs → RowsAt H (ts ++ [t]) (rs ++ [r])
  | [], [], _ => ⟨e, trivial⟩
  | t' :: ts, r' :: rs, ⟨h, q⟩ => ⟨h, RowsAt.snoc e q⟩
  | [], _ :: _, h => h.elim
  | _ :: _, [], h => h.elim
/-- a list is written: tuples stay -/
theorem tup_put {H : Hp} {p : Addr} {xs ys : List V} (hp : H p = some (.lst xs)) : ∀ t zs, H t = some (.tup zs) → (upd H p (.lst ys)) t = some (.tup zs) := fun t zs e => by
  rw [upd_ne]
  · exact e
  · intro z
    rw [z, hp] at e; cases e
/-! ### what the program says of rows -/
def mixL (r1 r2 : List Int) (s : Nat) : List Int := (List.range r1.length).map fun k => if hasB s k = true then r1.getD k 0 else r2.getD k 0
end L2

namespace L2
open PySem PySem.Spec PyProof.Rows

/-! ### lists of pairs as tables -/
section
variable {κ : Type} [DecidableEq κ]
def valV (kvs : List (κ × V)) (k : κ) : Option V := (kvs.find? fun kv => decide (kv.1 = k)).map (·.2)
/-- in its place, or at the end -/
def putK (kvs : List (κ × V)) (k : κ) (v : V) : List (κ × V) :=
  if (kvs.any fun kv => decide (kv.1 = k)) = true then kvs.map (fun kv => if kv.1 = k then (kv.1, v) else kv) else kvs ++ [(k, v)]
def dropK (kvs : List (κ × V)) (k : κ) : List (κ × V) := kvs.filter fun kv => decide (kv.1 ≠ k)

theorem valV_pos {p : κ × V} {r : List (κ × V)} {k : κ} (e : p.1 = k) : valV (p :: r) k = some p.2 := by simp [valV, List.find?_cons, e]
theorem valV_neg {p : κ × V} {r : List (κ × V)} {k : κ} (e : ¬ p.1 = k) : valV (p :: r) k = valV r k := by simp [valV, List.find?_cons, e]
theorem valV_any (k : κ) : ∀ kvs : List (κ × V), (kvs.any fun kv => decide (kv.1 = k)) = (valV kvs k).isSome
  | [] => rfl
  | p :: r => by
    rw [List.any_cons]
    by_cases e : p.1 = k
    · simp only [valV_pos e, decide_eq_true e, Bool.true_or, Option.isSome_some]
    · rw [valV_neg e, decide_eq_false e, Bool.false_or]; exact valV_any k r
theorem valV_map (k j : κ) (y : V) : ∀ kvs : List (κ × V), valV (kvs.map fun kv => if kv.1 = k then (kv.1, y) else kv) j = (valV kvs j).map fun x => if j = k then y else x
  | [] => rfl
  | p :: r => by
    have ih := valV_map k j y r
    rw [List.map_cons]
    by_cases h : p.1 = k
    · rw [if_pos h]
      by_cases e : p.1 = j
      · rw [valV_pos (p := (p.1, y)) e, valV_pos e, Option.map_some, if_pos (e.symm.trans h)]
      · rw [valV_neg (p := (p.1, y)) e, valV_neg e, ih]
    · rw [if_neg h]
      by_cases e : p.1 = j
      · rw [valV_pos (p := p) e, valV_pos e, Option.map_some, if_neg (fun z => h (e.trans z))]
      · rw [valV_neg (p := p) e, valV_neg e, ih]
theorem valV_snoc (k j : κ) (y : V) : ∀ kvs : List (κ × V), valV kvs k = none → valV (kvs ++ [(k, y)]) j = if j = k then some y else valV kvs j
  | [], _ => by
    by_cases e : k = j
    · rw [if_pos e.symm]; exact valV_pos (p := (k, y)) e
    · rw [if_neg (fun z => e z.symm)]; exact valV_neg (p := (k, y)) e
  | p :: r, hn => by
    rw [List.cons_append]
    have hk : ¬ p.1 = k := fun z => by rw [valV_pos z] at hn; cases hn
    rw [valV_neg hk] at hn
    have ih := valV_snoc k j y r hn
    by_cases e : p.1 = j
    · rw [valV_pos e, valV_pos e, if_neg (fun z => hk (e.trans z))]
    · rw [valV_neg e, valV_neg e, ih]
theorem valV_put (kvs : List (κ × V)) (k j : κ) (y : V) : valV (putK kvs k y) j = if j = k then some y else valV kvs j := by
  unfold putK
  by_cases a : (kvs.any fun kv => decide (kv.1 = k)) = true
  · rw [if_pos a, valV_map]
    rw [valV_any] at a
    by_cases e : j = k
    · obtain ⟨x, hx⟩ := Option.isSome_iff_exists.mp a
      rw [if_pos e, e, hx, Option.map_some, if_pos rfl]
    · rw [if_neg e]
      cases valV kvs j with
      | none => rfl
      | some x => rw [Option.map_some, if_neg e]
  · rw [if_neg a]
    refine valV_snoc k j y kvs ?_
    rw [valV_any] at a
    cases q : valV kvs k with
    | none => rfl
    | some x => rw [q] at a; exact (a rfl).elim
theorem length_putK (kvs : List (κ × V)) (k : κ) (v : V) : (putK kvs k v).length ≤ kvs.length + 1 := by
  unfold putK
  split
  · rw [List.length_map]; omega
  · rw [List.length_append, List.length_cons, List.length_nil]; omega
theorem putK_new {kvs : List (κ × V)} {k : κ} (v : V) (h : valV kvs k = none) : putK kvs k v = kvs ++ [(k, v)] := by
  unfold putK
  rw [valV_any, h]
  exact if_neg (by decide)

theorem RelO.isSome_eq {o : Option V} {u : Option Value} (r : RelO o u) : o.isSome = u.isSome := by
  cases o with
  | none => cases u with
    | none => rfl
    | some _ => exact (show False from r).elim
  | some _ => cases u with
    | none => exact (show False from r).elim
    | some _ => rfl
theorem RelO.getD {o : Option V} {u : Option Value} {d : V} {d' : Value} (r : RelO o u) (rd : RelV d d') : RelV (o.getD d) (u.getD d') := by
  cases o with
  | none => cases u with
    | none => exact rd
    | some _ => exact (show False from r).elim
  | some _ => cases u with
    | none => exact (show False from r).elim
    | some _ => exact r

/-- raw tables of the same keys -/
theorem KV.val {kvs : List (κ × V)} {vs : List (κ × Value)} (r : KV kvs vs) (k : κ) : RelO (valV kvs k) (valueAt vs k) := by
  unfold KV at r
  induction r with
  | nil => exact True.intro
  | @cons p q ps qs h t ih =>
    obtain ⟨h1, h2⟩ := h
    by_cases e : p.1 = k
    · have e' : q.1 = k := h1.symm.trans e
      have b : valueAt (q :: qs) k = some q.2 := by simp [valueAt, List.find?_cons, e']
      rw [valV_pos e, b]; exact h2
    · have e' : ¬ q.1 = k := fun z => e (h1.trans z)
      have b : valueAt (q :: qs) k = valueAt qs k := by simp [valueAt, List.find?_cons, e']
      rw [valV_neg e, b]; exact ih
theorem KV.any {kvs : List (κ × V)} {vs : List (κ × Value)} (r : KV kvs vs) (k : κ) : (kvs.any fun kv => decide (kv.1 = k)) = vs.any fun kv => decide (kv.1 = k) := by
  unfold KV at r
  induction r with
  | nil => rfl
  | cons h t ih => rw [List.any_cons, List.any_cons, ih, h.1]
theorem KV.repl {kvs : List (κ × V)} {vs : List (κ × Value)} (r : KV kvs vs) (k : κ) {y : V} {u : Value} (ry : RelV y u) :
    KV (kvs.map fun kv => if kv.1 = k then (kv.1, y) else kv) (vs.map fun kv => if kv.1 = k then (kv.1, u) else kv) := by
  unfold KV at r ⊢
  induction r with
  | nil => exact .nil
  | @cons p q ps qs h t ih =>
    rw [List.map_cons, List.map_cons]
    refine .cons ?_ ih
    obtain ⟨h1, h2⟩ := h
    by_cases e : p.1 = k
    · rw [if_pos e, if_pos (h1.symm.trans e)]; exact ⟨h1, ry⟩
    · rw [if_neg e, if_neg (fun z => e (h1.trans z))]; exact ⟨h1, h2⟩
theorem KV.put {kvs : List (κ × V)} {vs : List (κ × Value)} (r : KV kvs vs) (k : κ) {y : V} {u : Value} (ry : RelV y u) : KV (putK kvs k y) (stored vs k u) := by
  unfold putK stored
  rw [r.any k]
  by_cases e : (vs.any fun kv => decide (kv.1 = k)) = true
  · rw [if_pos e, if_pos e]; exact r.repl k ry
  · rw [if_neg e, if_neg e]; exact Paired.snoc r ⟨rfl, ry⟩
theorem KV.drop {kvs : List (κ × V)} {vs : List (κ × Value)} (r : KV kvs vs) (k : κ) : KV (dropK kvs k) (without vs k) := by
  unfold KV at r ⊢
  unfold dropK without
  induction r with
  | nil => exact .nil
  | @cons p q ps qs h t ih =>
    obtain ⟨h1, h2⟩ := h
    rw [List.filter_cons, List.filter_cons]
    by_cases e : p.1 = k
    · have a : ¬ decide (p.1 ≠ k) = true := by simp [e]
      have b : ¬ decide (q.1 ≠ k) = true := by simp [h1.symm.trans e]
      rw [if_neg a, if_neg b]; exact ih
    · have e' : ¬ q.1 = k := fun z => e (h1.trans z)
      have a : decide (p.1 ≠ k) = true := by simp [e]
      have b : decide (q.1 ≠ k) = true := by simp [e']
      rw [if_pos a, if_pos b]; exact .cons ⟨h1, h2⟩ ih
theorem KV.keys {kvs : List (κ × V)} {vs : List (κ × Value)} (r : KV kvs vs) : kvs.map (·.1) = vs.map (·.1) := by
  unfold KV at r
  induction r with
  | nil => rfl
  | cons h t ih => rw [List.map_cons, List.map_cons, ih, h.1]
theorem KV.length {kvs : List (κ × V)} {vs : List (κ × Value)} (r : KV kvs vs) : kvs.length = vs.length := Paired.length r
end


/-! ### a tracked dict, its keys ints and texts or tuples of these -/
theorem kV_is {P : Program} {w : World} {k : Key} {u : Value} (r : RelV (kV k) u) : (mixKind P w).is k u = true := by
  cases k with
  | inl i => obtain ⟨t, e⟩ := (show ∃ t, u = Value.int i t from r); subst e; exact mixKind_int P w i t
  | inr x => obtain ⟨t, e⟩ := (show ∃ t, u = Value.str x t from r); subst e; exact mixKind_str P w x t
theorem items_are {P : Program} {w : World} : ∀ {ks : List Key} {us : List Value}, Vals (ks.map kV) us → ItemsAre (mixKind P w) ks us
  | [], _, r => by rw [List.map_nil] at r; cases r; exact .nil
  | k :: ks, _, r => by
    rw [List.map_cons] at r
    cases r with
    | cons h t => exact .cons (kV_is h) (items_are t)

/-- raw entries of a dict with tuple keys -/
abbrev KT (H : Hp) : List (List Key × V) → List (List Key × Addr × Value) → Prop := Paired fun p q => p.1 = q.1 ∧ H q.2.1 = some (.tup (p.1.map kV)) ∧ RelV p.2 q.2.2
theorem KT.val {H : Hp} {kvs : List (List Key × V)} {xs : List (List Key × Addr × Value)} (r : KT H kvs xs) (k : List Key) : RelO (valV kvs k) ((atKey xs k).map (·.2)) := by
  induction r with
  | nil => exact True.intro
  | @cons p q ps qs h t ih =>
    obtain ⟨h1, _, h2⟩ := h
    by_cases e : p.1 = k
    · have e' : q.1 = k := h1.symm.trans e
      have b : atKey (q :: qs) k = some q.2 := by simp [atKey, List.find?_cons, e']
      rw [valV_pos e, b]; exact h2
    · have e' : ¬ q.1 = k := fun z => e (h1.trans z)
      have b : atKey (q :: qs) k = atKey qs k := by simp [atKey, List.find?_cons, e']
      rw [valV_neg e, b]; exact ih
theorem KT.repl {H : Hp} {kvs : List (List Key × V)} {xs : List (List Key × Addr × Value)} (r : KT H kvs xs) (k : List Key) {y : V} {u : Value} (ry : RelV y u) :
    KT H (kvs.map fun kv => if kv.1 = k then (kv.1, y) else kv) (xs.map (putAt k u)) := by
  induction r with
  | nil => exact .nil
  | @cons p q ps qs h t ih =>
    rw [List.map_cons, List.map_cons]
    refine .cons ?_ ih
    obtain ⟨h1, h2, h3⟩ := h
    unfold putAt
    by_cases e : p.1 = k
    · rw [if_pos e, if_pos (h1.symm.trans e)]; exact ⟨h1, h2, ry⟩
    · rw [if_neg e, if_neg (fun z => e (h1.trans z))]; exact ⟨h1, h2, h3⟩
theorem KT.put {H : Hp} {kvs : List (List Key × V)} {xs : List (List Key × Addr × Value)} (r : KT H kvs xs) (k : List Key) {b : Addr} {y : V} {u : Value} (hb : H b = some (.tup (k.map kV))) (ry : RelV y u) :
    KT H (putK kvs k y) (storedH xs k b u) := by
  have e : (kvs.any fun kv => decide (kv.1 = k)) = (atKey xs k).isSome := by
    rw [valV_any, (r.val k).isSome_eq, Option.isSome_map]
  unfold putK storedH
  rw [e]
  by_cases q : (atKey xs k).isSome = true
  · rw [if_pos q, if_pos q]; exact r.repl k ry
  · rw [if_neg q, if_neg q]; exact Paired.snoc r ⟨rfl, hb, ry⟩
theorem KT.keeps {H H' : Hp} {kvs : List (List Key × V)} {xs : List (List Key × Addr × Value)} (r : KT H kvs xs) (ht : ∀ b ys, H b = some (.tup ys) → H' b = some (.tup ys)) : KT H' kvs xs :=
  Paired.mapP r fun _ _ z => ⟨z.1, ht _ _ z.2.1, z.2.2⟩

section
variable {P : Program} {w : World} {H : Hp} {h : Heap} {a : Addr}
theorem rd_of {u : HO} (ok : HOk P w H h) (e : Rd H a u) : ObjOk P w H h a u := e.ok ok
theorem dk_rd {kvs : List (Key × V)} (ok : HOk P w H h) (e : Rd H a (.dK kvs)) : kvs.length ≤ sizeLine ∧ (a == sysModules) = false ∧ ∃ vs, KV kvs vs ∧ h.DictOf (mixKind P w) a vs :=
  show ObjOk P w H h a (.dK kvs) from rd_of ok e
theorem dk_of {kvs : List (Key × V)} (ok : HOk P w H h) (e : H a = some (.dK kvs)) : kvs.length ≤ sizeLine ∧ (a == sysModules) = false ∧ ∃ vs, KV kvs vs ∧ h.DictOf (mixKind P w) a vs := dk_rd ok (.inl e)
/-- a tracked tuple of ints and texts is a key -/
theorem key_of {ks : List Key} (ok : HOk P w H h) (e : H a = some (.tup (ks.map kV))) : (tupleKind (mixKind P w)).is h ks a := by
  obtain ⟨_, its, r, o, h1, h2, n, h3⟩ := (show ObjOk P w H h a (.tup (ks.map kV)) from ok a _ e)
  exact ⟨o, its.toArray, n, h1, h2, h3, by simpa using items_are r⟩
theorem dt_rd {kvs : List (List Key × V)} (ok : HOk P w H h) (e : Rd H a (.dT kvs)) : kvs.length ≤ sizeLine ∧ (a == sysModules) = false ∧
    ∃ xs, KT H kvs xs ∧ h.DictOfH (tupleKind (mixKind P w)) a xs := by
  obtain ⟨z, y, xs, r, o, es, ep, h1, h2, h3, h4, h5⟩ := (show ObjOk P w H h a (.dT kvs) from rd_of ok e)
  refine ⟨z, y, xs, r, o, es, ep, h1, h2, h3, h4, fun x hx => ?_, h5⟩
  have all : ∀ {l : List (List Key × V)} {m : List (List Key × Addr × Value)}, KT H l m → ∀ x ∈ m, (tupleKind (mixKind P w)).is h x.1 x.2.1 := by
    intro l m q
    induction q with
    | nil => intro x hx; exact nomatch hx
    | @cons p q ps qs hq t ih =>
      intro x hx
      rcases List.mem_cons.mp hx with e | hx
      · subst e
        exact key_of ok (by rw [← hq.1]; exact hq.2.1)
      · exact ih x hx
  exact all r x hx
theorem dt_of {kvs : List (List Key × V)} (ok : HOk P w H h) (e : H a = some (.dT kvs)) : kvs.length ≤ sizeLine ∧ (a == sysModules) = false ∧
    ∃ xs, KT H kvs xs ∧ h.DictOfH (tupleKind (mixKind P w)) a xs := dt_rd ok (.inl e)
end

/-- what the dict at a holds at the key y -/
def DGet (H : Hp) (a : Addr) (y : V) (r : Option V) : Prop :=
  (∃ kvs k, Rd H a (.dK kvs) ∧ y = kV k ∧ r = valV kvs k) ∨ ∃ kvs k b, Rd H a (.dT kvs) ∧ y = .ref b ∧ H b = some (.tup (k.map kV)) ∧ r = valV kvs k
/-- the heap behind a[y] = v -/
def DPut (H : Hp) (a : Addr) (y v : V) (H' : Hp) : Prop :=
  (∃ kvs k, H a = some (.dK kvs) ∧ y = kV k ∧ kvs.length < sizeLine ∧ H' = upd H a (.dK (putK kvs k v))) ∨
  ∃ kvs k b, H a = some (.dT kvs) ∧ y = .ref b ∧ H b = some (.tup (k.map kV)) ∧ kvs.length < sizeLine ∧ H' = upd H a (.dT (putK kvs k v))
theorem DGet.k {H : Hp} {a : Addr} {kvs : List (Key × V)} {k : Key} (e : H a = some (.dK kvs)) : DGet H a (kV k) (valV kvs k) := .inl ⟨kvs, k, .inl e, rfl, rfl⟩
theorem DGet.t {H : Hp} {a b : Addr} {kvs : List (List Key × V)} {k : List Key} (e : H a = some (.dT kvs)) (eb : H b = some (.tup (k.map kV))) : DGet H a (.ref b) (valV kvs k) := .inr ⟨kvs, k, b, .inl e, rfl, eb, rfl⟩
theorem DPut.k {H : Hp} {a : Addr} {kvs : List (Key × V)} {k : Key} {v : V} (e : H a = some (.dK kvs)) (hl : kvs.length < sizeLine) : DPut H a (kV k) v (upd H a (.dK (putK kvs k v))) := .inl ⟨kvs, k, e, rfl, hl, rfl⟩
theorem DPut.t {H : Hp} {a b : Addr} {kvs : List (List Key × V)} {k : List Key} {v : V} (e : H a = some (.dT kvs)) (eb : H b = some (.tup (k.map kV))) (hl : kvs.length < sizeLine) :
    DPut H a (.ref b) v (upd H a (.dT (putK kvs k v))) := .inr ⟨kvs, k, b, e, rfl, eb, hl, rfl⟩


section
variable {X : Cx} {pins : List (Addr × Obj)} {σ : St} {H : Hp} {s : Shared} {a : Addr} {y v : V} {u r : Value} {o : Option V} {A : Around} {E : Value → Shared → Prop}

theorem Inv.big (I : Inv X pins σ H s) : sysModules < s.heap.objs.size := by
  have h : mainGlobals < s.heap.objs.size := (I.mod.glob.keeps I.bk).lt
  exact Nat.lt_trans (by decide) h

/-- d[y], there -/
theorem d_getItem {Q : Value → Shared → Prop} (hu : A.units + 1 < cLine) (I : Inv X pins σ H s) (g : DGet H a y (some v)) (ry : RelV y u) (h : ∀ w' s', Inv X pins σ H s' → RelV v w' → Q w' s') :
    wpAny (model X.prog X.w) A (getItem (.ref a) u) Q E s := by
  rcases g with ⟨kvs, k, e, ey, l⟩ | ⟨kvs, k, b, e, ey, eb, l⟩
  · subst ey
    obtain ⟨z, hd, vs, rel, dd⟩ := dk_rd I.hok e
    obtain ⟨w', hw, rw'⟩ := RelO.some_of (v := v) (o := valueAt vs k) (by rw [l]; exact rel.val k)
    exact wpAny_getItem_of (kV_is ry) dd.mapOf hw (h w' _ (I.tok _) rw')
  · subst ey
    cases (show u = Value.ref b from ry)
    obtain ⟨z, hd, xs, rel, dd⟩ := dt_rd I.hok e
    obtain ⟨w', hw, rw'⟩ := RelO.some_of (v := v) (o := (atKey xs k).map (·.2)) (by rw [l]; exact rel.val k)
    obtain ⟨p, hp, hp2⟩ := Option.map_eq_some_iff.mp hw
    refine wpAny_getItem_heap (tupleKind_room_in1 hu) (key_of I.hok eb) dd hp ?_
    rw [hp2]
    exact h w' _ (I.tok _) rw'
theorem d_notIn {Q : Value → Shared → Prop} (hu : A.units + 1 < cLine) (I : Inv X pins σ H s) (g : DGet H a y o) (ry : RelV y u) (h : ∀ s', Inv X pins σ H s' → Q (.bool (!o.isSome)) s') :
    wpAny (model X.prog X.w) A (compareOp .NotIn u (.ref a)) Q E s := by
  rcases g with ⟨kvs, k, e, ey, l⟩ | ⟨kvs, k, b, e, ey, eb, l⟩
  · subst ey
    obtain ⟨z, hd, vs, rel, dd⟩ := dk_rd I.hok e
    refine wpAny_notIn_of (kV_is ry) hd dd.mapOf ?_
    rw [← (rel.val k).isSome_eq, ← l]
    exact h _ (I.tok _)
  · subst ey
    cases (show u = Value.ref b from ry)
    obtain ⟨z, hd, xs, rel, dd⟩ := dt_rd I.hok e
    refine wpAny_notIn_heap (tupleKind_room_in1 hu) (key_of I.hok eb) hd dd ?_
    have q := (rel.val k).isSome_eq
    rw [Option.isSome_map] at q
    rw [← q, ← l]
    exact h _ (I.tok _)
/-- a dict's object is replaced -/
theorem d_write {h' : Heap} {t' : Nat} {ob : HO} (I : Inv X pins σ H s) (mu : Mut (H a)) (hs : Heap.SameBut a s.heap h') (he : ∃ q, h'.get? a = some q) (new : ObjOk X.prog X.w (upd H a ob) h' a ob) :
    Inv X pins σ (upd H a ob) { s with heap := h', toks := t' } :=
  I.write (x := a) (e := a) mu (.inl rfl) (fun b q hb z => (hs.2 b hb).trans z) he new
theorem dk_new {P : Program} {w : World} {H' : Hp} {h' : Heap} {kvs : List (Key × V)} {vs : List (Key × Value)} (z : kvs.length ≤ sizeLine) (hd : (a == sysModules) = false) (rel : KV kvs vs) (dd : h'.DictOf (mixKind P w) a vs) :
    ObjOk P w H' h' a (.dK kvs) := ⟨z, hd, vs, rel, dd⟩
/-- d[y] = v -/
theorem d_setItem {H' : Hp} {Q : Unit → Shared → Prop} (hu : A.units + 1 < cLine) (I : Inv X pins σ H s) (g : DPut H a y v H') (ry : RelV y u) (rv : RelV v r) (h : ∀ s', Inv X pins σ H' s' → Q () s') :
    wpAny (model X.prog X.w) A (setItem (.ref a) u r) Q E s := by
  rcases g with ⟨kvs, k, e, ey, l, eH⟩ | ⟨kvs, k, b, e, ey, eb, l, eH⟩
  · subst ey eH
    obtain ⟨z, hd, vs, rel, dd⟩ := dk_of I.hok e
    have hz : vs.length ≤ sizeLine := by rw [← rel.length]; exact z
    have hl : (putK kvs k v).length ≤ sizeLine := by have := length_putK kvs k v; omega
    refine wpAny_setItem_pairs (hsz := hz) (kV_is ry) dd fun h' dd' hs => h _ ?_
    have he : ∃ q, h'.get? a = some q := let ⟨q, _, _, hq, _⟩ := dd'; ⟨q, hq⟩
    exact d_write I (by rw [e]; exact True.intro) hs he (dk_new hl hd (rel.put k rv) dd')
  · subst ey eH
    cases (show u = Value.ref b from ry)
    obtain ⟨z, hd, xs, rel, dd⟩ := dt_of I.hok e
    have hz : xs.length ≤ sizeLine := by rw [← Paired.length rel]; exact z
    have hl : (putK kvs k v).length ≤ sizeLine := by have := length_putK kvs k v; omega
    refine wpAny_setItem_heap (hsz := hz) (tupleKind_room_in1 hu) (key_of I.hok eb) dd fun h' dd' hs => h _ ?_
    obtain ⟨q, es, ep, hq, h2, h3, h4, _, h5⟩ := dd'
    refine d_write I (by rw [e]; exact True.intro) hs ⟨q, hq⟩ ⟨hl, hd, _, (rel.put k eb rv).keeps fun c ys ec => ?_, q, es, ep, hq, h2, h3, h4, h5⟩
    rw [upd_ne (ne_of ec e (fun z => nomatch z))]
    exact ec
end

section
variable {X : Cx} {pins : List (Addr × Obj)} {σ : St} {H : Hp} {s : Shared} {a : Addr} {kvs : List (Key × V)} {k : Key} {u : Value} {A : Around} {E : Value → Shared → Prop}
end


/-! ### readings and rules -/
/-- the element of a subscription, not a slice -/
def NoSl (i : Expr) : Prop := ∀ ov iv, subscripted i false ov iv = operate [ov, iv] (getItem ov iv)
theorem subD_of {prog : Program} {w : World} {A : Around} {E : Value → Shared → Prop} {s : Shared} {env : Env} {value slice : Expr} {pos : Pos} {T id : String} {Q : Value → Shared → Prop}
    (hl : typeLookup (.type T) "__getitem__" = pure (some (.builtin id))) (hs : NoSl slice)
    (h : wpAny (model prog w) A (eval value env) (fun o s₁ => wpAny (model prog w) A (eval slice env) (fun i s₂ => s₂.TypeIs o T ∧ wpAny (model prog w) A (getItem o i) Q E s₂) E s₁) E s) :
    wpAny (model prog w) A (eval (.Subscript value slice pos) env) Q E s := by
  refine Subscript_ (wpAny_mono h (fun o s₁ h₁ => wpAny_mono h₁ (fun i s₂ h₂ => ?_) fun _ _ x => x) fun _ _ x => x)
  obtain ⟨hT, h₂⟩ := h₂
  unfold subscriptTail
  refine wpAny_bind ?_
  rw [getitemInPython_of_ne hT.not_modules]
  refine wpAny_bind (wpAny_specialOf hT hl ?_)
  have fin : wpAny (model prog w) A (subscripted slice false o i) (fun r s₃ => wpAny (model prog w) A (letTemporaryGo value o r >>= fun _ => pure r) Q E s₃) E s₂ := by
    rw [hs o i]
    exact wpAny_operating (wpAny_mono h₂ (fun r s₃ h₃ => wpAny_bind (wpAny_letTemporaryGo (wpAny_pure h₃))) fun _ _ x => x)
  first
    | exact wpAny_pure (wpAny_bind fin)
    | exact wpAny_bind (wpAny_pure (wpAny_bind fin))
    | exact wpAny_bind fin

theorem dict_typeIs {X : Cx} {pins : List (Addr × Obj)} {σ : St} {H : Hp} {s : Shared} {a : Addr} {y : V} {o : Option V} (I : Inv X pins σ H s) (g : DGet H a y o) : s.TypeIs (.ref a) "dict" := by
  rcases g with ⟨kvs, k, e, _, _⟩ | ⟨kvs, k, b, e, _, _, _⟩
  · obtain ⟨_, _, vs, _, dd⟩ := dk_rd I.hok e
    exact dd.typeIs
  · obtain ⟨_, _, xs, _, dd⟩ := dt_rd I.hok e
    exact dd.typeIs
/-- d[y] -/
def tDGet (td ty : TE) : TE := fun σ H Q => td σ H fun x H1 => ty σ H1 fun y H2 => ∃ a v, x = .ref a ∧ DGet H2 a y (some v) ∧ Q v H2
def tDNotIn (ty td : TE) : TE := fun σ H Q => ty σ H fun y H1 => td σ H1 fun x H2 => ∃ a o, x = .ref a ∧ DGet H2 a y o ∧ Q (.bl (!o.isSome)) H2
/-- d[y] = v -/
def sDPut (td ty tv : TE) : TS := fun D σ H => tv σ H fun v H1 => td σ H1 fun x H2 => ty σ H2 fun y H3 => ∃ a H4, x = .ref a ∧ DPut H3 a y v H4 ∧ D.nx σ H4
section
variable {X : Cx} {o i e value : Expr} {pos pos' tpos : Pos} {td ty tv : TE}
theorem pe_dget (hu : X.A.units + 1 < cLine) (ho : PE X o td) (hi : PE X i ty) (hs : NoSl i) : PE X (.Subscript o i pos) (tDGet td ty) := by
  intro pins s σ H Q I h
  refine subD_of PySem.F.slot_dict_getitem.lookup hs (thn (ho pins s σ H _ I h) fun u s1 ⟨x, H1, I1, rx, q1⟩ => thn (hi pins s1 σ H1 _ I1 q1) fun iv s2 ⟨y, H2, I2, ry, a, v, ex, g, q2⟩ => ?_)
  subst ex
  obtain rfl : u = Value.ref a := rx
  exact ⟨dict_typeIs I2 g, d_getItem hu I2 g ry fun w' s3 I3 rw' => ⟨v, H2, I3, rw', q2⟩⟩
theorem pc_dnotin (hu : X.A.units + 1 < cLine) (hi : PE X i ty) (ho : PE X o td) : PC X .NotIn i o (tDNotIn ty td) := by
  intro pins s σ H Q I h
  refine thn (hi pins s σ H _ I h) fun iv s1 ⟨y, H1, I1, ry, q1⟩ => thn (ho pins s1 σ H1 _ I1 q1) fun u s2 ⟨x, H2, I2, rx, a, ov, ex, g, q2⟩ => ?_
  subst ex
  obtain rfl : u = Value.ref a := rx
  exact d_notIn hu I2 g ry fun s3 I3 => ⟨.bl (!ov.isSome), H2, I3, rfl, q2⟩
theorem ps_dput (hu : X.A.units + 1 < cLine) (ho : PE X o td) (hi : PE X i ty) (hv : PE X value tv) (hs : swapsWith value (some (.Subscript o i pos')) pos.line X.env = pure false) :
    PS X (.Assign [.Subscript o i pos'] value pos) (sDPut td ty tv) := by
  intro pins s σ H D I h
  refine wpAny_Assign_Subscript (thn (hv pins s σ H _ I h) fun r s1 ⟨v, H1, I1, rv, q1⟩ => thn (ho pins s1 σ H1 _ I1 q1) fun u s2 ⟨x, H2, I2, rx, q2⟩ => thn (hi pins s2 σ H2 _ I2 q2) fun iv s3 ⟨y, H3, I3, ry, a, H4, ex, g, q3⟩ => ?_) hs
  subst ex
  obtain rfl : u = Value.ref a := rx
  exact d_setItem hu I3 g ry rv fun s4 I4 => ⟨σ, H4, I4, q3⟩
end


/-! ### displays -/
theorem dk_empty {P : Program} {w : World} {H : Hp} (h : Heap) (hb : sysModules < h.objs.size) : ObjOk P w H (h.push { cls := .type "dict", data := .dict #[] }) h.objs.size (.dK []) :=
  ⟨Nat.zero_le _, beq_eq_false_iff_ne.mpr (Ne.symm (Nat.ne_of_lt hb)), [], .nil, Heap.DictOf.new h⟩
/-- {}, to be a dict of the kind that is wanted -/
def tDNewK : TE := fun _ H Q => ∀ p, H p = none → Q (.ref p) (upd H p (.dK []))
section
variable {X : Cx} {pos : Pos}
theorem pe_dnewK : PE X (.Dict [] [] pos) tDNewK := fun pins s σ H Q I h =>
  wpAny_Dict_empty ⟨.ref s.heap.objs.size, _, I.laid (a := s.heap.objs.size) (o := .dK []) (t' := s.toks) (fun _ _ q => Heap.get?_push_of_some _ q) (Nat.le_refl _) (dk_empty s.heap I.big), rfl, h _ (I.hok.fresh (Nat.le_refl _))⟩
end

/-! ### methods -/
/-- a method call o.m(e) of a built-in, with one argument: what must be seen of the text -/
structure M1 (X : Cx) (o : Expr) (m : Str) (apos : Pos) (e : Expr) (cpos : Pos) : Prop where
  base : attributeBase o m X.env (eval o X.env) = eval o X.env
  few : ((backTo cpos (starEach [e] X.env)).all (fun x => !x.1) && (backToKw cpos (keywordEach [] X.env)).all (fun x => x.1.isSome)
    && decide (([e] : List Expr).length + ([] : List Keyword).length + (if ([] : List Keyword).isEmpty then 0 else 1) < 30)) = true
  line : (apos.endLine == cpos.line) = true
  trees : backTo cpos (starEach [e] X.env) = [(false, eval e X.env)]
structure M2 (X : Cx) (o : Expr) (m : Str) (apos : Pos) (e f : Expr) (cpos : Pos) : Prop where
  base : attributeBase o m X.env (eval o X.env) = eval o X.env
  few : ((backTo cpos (starEach [e, f] X.env)).all (fun x => !x.1) && (backToKw cpos (keywordEach [] X.env)).all (fun x => x.1.isSome)
    && decide (([e, f] : List Expr).length + ([] : List Keyword).length + (if ([] : List Keyword).isEmpty then 0 else 1) < 30)) = true
  line : (apos.endLine == cpos.line) = true
  trees : backTo cpos (starEach [e, f] X.env) = [(false, eval e X.env), (false, eval f X.env)]

section
variable {X : Cx} {pins : List (Addr × Obj)} {σ : St} {H : Hp} {s : Shared} {a : Addr} {y d : V} {u r : Value} {o : Option V} {A : Around} {E : Value → Shared → Prop}
end

section
variable {X : Cx} {o e f : Expr} {apos cpos : Pos} {td ty tx : TE}
end

/-! ### dict(d): a copy -/
section
variable {X : Cx} {pins : List (Addr × Obj)} {σ : St} {H : Hp} {s : Shared} {a : Addr} {kvs : List (Key × V)} {A : Around} {E : Value → Shared → Prop}
end


section
variable {X : Cx} {pins : List (Addr × Obj)} {σ : St} {H : Hp} {s : Shared} {a : Addr} {y : V} {u : Value} {A : Around} {E : Value → Shared → Prop}
end
end L2

namespace L2
open PySem PySem.Spec PyProof.Rows
/-! ### d.setdefault(k, x), the keys tuples -/
section
variable {prog : Program} {w : World} {A : Around} {E : Value → Shared → Prop} {s : Shared} {κ : Type} [DecidableEq κ] {kd : HeapKind prog w κ}
end
section
variable {X : Cx} {o e f : Expr} {apos cpos : Pos} {td ty tx : TE}
end
end L2

namespace L2
open PySem PySem.Spec PyProof.Rows
/-! ### for v in d.values(), whatever the keys -/
section
variable {prog : Program} {w : World} {A : Around} {E : Value → Shared → Prop} {s : Shared}
end
theorem KT.at {H : Hp} : ∀ {kvs : List (List Key × V)} {xs : List (List Key × Addr × Value)} {i : Nat}, KT H kvs xs → i < kvs.length → ∃ k v b u, kvs[i]? = some (k, v) ∧ xs[i]? = some (k, b, u) ∧ RelV v u
  | [], _, _, _, h => absurd h (Nat.not_lt_zero _)
  | (k, v) :: kvs, (k', b, u) :: xs, 0, .cons ⟨e, _, r⟩ _, _ => by
    have e' : k = k' := e
    subst e'
    exact ⟨k, v, b, u, rfl, rfl, r⟩
  | _ :: kvs, _ :: xs, i + 1, .cons _ t, h => by
    obtain ⟨k, v, b, u, h1, h2, h3⟩ := KT.at t (by simpa using h)
    exact ⟨k, v, b, u, by simpa using h1, by simpa using h2, h3⟩
section
variable {X : Cx} {pins : List (Addr × Obj)} {σ : St} {H : Hp} {s : Shared}
/-! ### the forms one uses -/
end
end L2

namespace L2
open PySem PySem.Spec PyProof.Rows
/-! ### dict of a list of pairs, the keys tuples -/
section
variable {prog : Program} {w : World} {A : Around} {E : Value → Shared → Prop} {s : Shared}
end
end L2

namespace L2
open PySem PySem.Spec PyProof.Rows
/-! ### dict of a list of pairs: the loop, the call -/
/-- a pair in the list: its tuple, its key, the key's tuple, its value -/
structure Pr where
  t : Addr
  k : List Key
  b : Addr
  v : V
section
variable {X : Cx} {pins : List (Addr × Obj)} {σ : St} {H : Hp}
end
end L2

namespace L2
open PySem PySem.Spec PyProof.Rows
/-! ### (x,) * n -/
end L2

namespace L2
open PySem PySem.Spec PyProof.Rows
/-! ### books: rows with their places, groups of rows -/
abbrev RW := Addr × List Int
def seenL (r : List Int) (s : Nat) : List Int := mixL r (List.replicate r.length 0) s
def tks (r : List Int) : List Key := r.map Sum.inl
theorem tks_inj : ∀ {a b : List Int}, tks a = tks b → a = b
  | [], [], _ => rfl
  | [], _ :: _, h => by cases h
  | _ :: _, [], h => by cases h
  | x :: a, y :: b, h => by
    have h1 : (Sum.inl x : Key) = Sum.inl y := (List.cons.inj h).1
    have h2 : tks a = tks b := (List.cons.inj h).2
    rw [Sum.inl.inj h1, tks_inj h2]
/-- a group: its key, its list's place, its rows -/
structure Gr where
  key : List Int
  at_ : Addr
  rows : List RW
def kvsOf (G : List Gr) : List (List Key × V) := G.map fun g => (tks g.key, V.ref g.at_)
def refsOf (rs : List RW) : List V := rs.map fun rw => V.ref rw.1
structure GroupsAt (H : Hp) (d : Addr) (G : List Gr) : Prop where
  dict : H d = some (.dT (kvsOf G))
  lists : ∀ g ∈ G, H g.at_ = some (.lst (refsOf g.rows))
  keys : (G.map (·.key)).Nodup
  ats : (G.map (·.at_)).Nodup
theorem valV_G {key : List Int} : ∀ G : List Gr, valV (kvsOf G) (tks key) = (G.find? fun g => decide (g.key = key)).map fun g => V.ref g.at_
  | [] => rfl
  | g :: G => by
    by_cases h : g.key = key
    · rw [show kvsOf (g :: G) = (tks g.key, V.ref g.at_) :: kvsOf G from rfl, valV_pos (by show tks g.key = _; rw [h]), List.find?_cons, decide_eq_true h]
      rfl
    · rw [show kvsOf (g :: G) = (tks g.key, V.ref g.at_) :: kvsOf G from rfl, valV_neg (fun e => h (tks_inj e)), List.find?_cons, decide_eq_false h, valV_G G]
def updG (G : List Gr) (key : List Int) (rw : RW) : List Gr := G.map fun g => if g.key = key then { g with rows := g.rows ++ [rw] } else g
theorem updG_keys (G : List Gr) (key : List Int) (rw : RW) : (updG G key rw).map (·.key) = G.map (·.key) := by
  unfold updG; rw [List.map_map]
  refine List.map_congr_left fun g _ => ?_
  show (if g.key = key then _ else g).key = g.key
  split <;> rfl
theorem updG_ats (G : List Gr) (key : List Int) (rw : RW) : (updG G key rw).map (·.at_) = G.map (·.at_) := by
  unfold updG; rw [List.map_map]
  refine List.map_congr_left fun g _ => ?_
  show (if g.key = key then _ else g).at_ = g.at_
  split <;> rfl
theorem updG_kvs (G : List Gr) (key : List Int) (rw : RW) : kvsOf (updG G key rw) = kvsOf G := by
  unfold kvsOf updG; rw [List.map_map]
  refine List.map_congr_left fun g _ => ?_
  show (tks (if g.key = key then _ else g).key, V.ref (if g.key = key then _ else g).at_) = _
  split <;> rfl
theorem find_none_key {G : List Gr} {key : List Int} (h : (G.find? fun g => decide (g.key = key)) = none) : key ∉ G.map (·.key) := fun hm => by
  obtain ⟨g, hg, e⟩ := List.mem_map.mp hm
  have := List.find?_eq_none.mp h g hg
  exact this (decide_eq_true e)
/-- a row goes into a group that is there -/
theorem GroupsAt.old {H : Hp} {d : Addr} {G : List Gr} {key : List Int} {rw : RW} {g : Gr} (A : GroupsAt H d G) (h : (G.find? fun g => decide (g.key = key)) = some g) : g ∈ G ∧ g.key = key ∧ GroupsAt (upd H g.at_ (.lst (refsOf g.rows ++ [V.ref rw.1]))) d (updG G key rw) := by
  have hm := List.mem_of_find?_eq_some h
  have hk : g.key = key := by
    have h1 := List.find?_some (p := fun g : Gr => decide (g.key = key)) h
    exact of_decide_eq_true h1
  have hl := A.lists g hm
  have ne : g.at_ ≠ d := ne_of hl A.dict (fun z => nomatch z)
  refine ⟨hm, hk, ⟨by rw [updG_kvs, upd_ne (Ne.symm ne)]; exact A.dict, fun g' hg' => ?_, by rw [updG_keys]; exact A.keys, by rw [updG_ats]; exact A.ats⟩⟩
  obtain ⟨g0, h0, rfl⟩ := List.mem_map.mp hg'
  have uniq : ∀ g1 ∈ G, ∀ g2 ∈ G, g1.at_ = g2.at_ → g1 = g2 := by
    have : ∀ (L : List Gr), (L.map (·.at_)).Nodup → ∀ g1 ∈ L, ∀ g2 ∈ L, g1.at_ = g2.at_ → g1 = g2 := by
      intro L
      induction L with
      | nil => intro _ g1 h1; cases h1
      | cons x L ih =>
        intro hn g1 h1 g2 h2 e
        rw [List.map_cons, List.nodup_cons] at hn
        rcases List.mem_cons.mp h1 with rfl | k1 <;> rcases List.mem_cons.mp h2 with rfl | k2
        · rfl
        · exact absurd (List.mem_map.mpr ⟨g2, k2, e.symm⟩) hn.1
        · exact absurd (List.mem_map.mpr ⟨g1, k1, e⟩) hn.1
        · exact ih hn.2 g1 k1 g2 k2 e
    exact this G A.ats
  have uniqk : ∀ g1 ∈ G, g1.key = key → g1 = g := by
    have : ∀ (L : List Gr), (L.map (·.key)).Nodup → ∀ g1 ∈ L, ∀ g2 ∈ L, g1.key = g2.key → g1 = g2 := by
      intro L
      induction L with
      | nil => intro _ g1 h1; cases h1
      | cons x L ih =>
        intro hn g1 h1 g2 h2 e
        rw [List.map_cons, List.nodup_cons] at hn
        rcases List.mem_cons.mp h1 with rfl | k1 <;> rcases List.mem_cons.mp h2 with rfl | k2
        · rfl
        · exact absurd (List.mem_map.mpr ⟨g2, k2, e.symm⟩) hn.1
        · exact absurd (List.mem_map.mpr ⟨g1, k1, e⟩) hn.1
        · exact ih hn.2 g1 k1 g2 k2 e
    exact fun g1 h1 e => this G A.keys g1 h1 g hm (e.trans hk.symm)
  by_cases e : g0.key = key
  · obtain rfl := uniqk g0 h0 e
    rw [if_pos e]
    show upd H g0.at_ _ g0.at_ = some (.lst (refsOf (g0.rows ++ [rw])))
    rw [upd_same]
    unfold refsOf
    rw [List.map_append]
    rfl
  · rw [if_neg e, upd_ne]
    · exact A.lists g0 h0
    · intro z
      exact e ((uniq g0 h0 g hm z) ▸ hk)
/-- a new group -/
theorem GroupsAt.snoc {H : Hp} {d l : Addr} {G : List Gr} {key : List Int} {rw : RW} (A : GroupsAt H d G) (h : (G.find? fun g => decide (g.key = key)) = none) (hl : H l = some (.lst [])) (hn : ∀ g ∈ G, g.at_ ≠ l) :
    GroupsAt (upd (upd H d (.dT (putK (kvsOf G) (tks key) (V.ref l)))) l (.lst ([] ++ [V.ref rw.1]))) d (G ++ [⟨key, l, [rw]⟩]) := by
  have ne : l ≠ d := ne_of hl A.dict (fun z => nomatch z)
  have hv : valV (kvsOf G) (tks key) = none := by rw [valV_G, h]; rfl
  refine ⟨?_, fun g hg => ?_, ?_, ?_⟩
  · rw [upd_ne (Ne.symm ne), upd_same, putK_new _ hv]
    unfold kvsOf
    rw [List.map_append]
    rfl
  · rcases List.mem_append.mp hg with hg | hg
    · have hgl := A.lists g hg
      rw [upd_ne (hn g hg), upd_ne (ne_of hgl A.dict (fun z => nomatch z))]
      exact hgl
    · rw [List.mem_singleton.mp hg]
      exact upd_same
  · rw [List.map_append, List.nodup_append]
    refine ⟨A.keys, by simp, fun x hx y hy e => find_none_key h ?_⟩
    have hy' : y = key := by simpa using hy
    rw [← hy', ← e]; exact hx
  · rw [List.map_append, List.nodup_append]
    refine ⟨A.ats, by simp, fun x hx y hy e => ?_⟩
    have hy' : y = l := by simpa using hy
    obtain ⟨g, hg, rfl⟩ := List.mem_map.mp hx
    exact hn g hg (e.trans hy')
/-! ### what a group is -/
end L2

namespace L2
open PySem PySem.Spec PyProof.Rows
/-! ### the promises of the program's own defs about books -/
theorem GroupsAt.same {H H' : Hp} {d : Addr} {G : List Gr} (A : GroupsAt H d G) (e : Same H H') : GroupsAt H' d G := ⟨e _ _ A.dict, fun g hg => e _ _ (A.lists g hg), A.keys, A.ats⟩
def RowsOk (H : Hp) (m : Nat) (rws : List RW) : Prop := ∀ rw ∈ rws, H rw.1 = some (.tup (rw.2.map V.int)) ∧ rw.2.length = m
theorem RowsOk.same {H H' : Hp} {m : Nat} {rws : List RW} (r : RowsOk H m rws) (e : Same H H') : RowsOk H' m rws := fun rw h => ⟨e _ _ (r rw h).1, (r rw h).2⟩
end L2

namespace L2
open PySem PySem.Spec PyProof.Rows
/-! ### rows alike and mixed: the mathematics -/
/-! ### the promises -/
def SetOk (rws : List RW) (x y : Nat) : Prop := ∀ a ∈ rws, ∀ b ∈ rws, seenL a.2 x = seenL b.2 x → seenL a.2 y = seenL b.2 y
def DealOk (rws : List RW) (x y : Nat) : Prop := ∀ a ∈ rws, ∀ b ∈ rws, seenL a.2 x = seenL b.2 x → ∃ c ∈ rws, c.2 = mixL a.2 b.2 (x ||| y)
def SetBad (rws : List RW) (x y : Nat) (a b : RW) : Prop := a ∈ rws ∧ b ∈ rws ∧ seenL a.2 x = seenL b.2 x ∧ seenL a.2 y ≠ seenL b.2 y
def DealBad (rws : List RW) (x y : Nat) (a b : RW) : Prop := a ∈ rws ∧ b ∈ rws ∧ seenL a.2 x = seenL b.2 x ∧ ∀ c ∈ rws, c.2 ≠ mixL a.2 b.2 (x ||| y)
def BookAt (K : PySem.W.Frag) (H : Hp) (bk : Addr) (rws : List RW) (m : Nat) : Prop := SqL K H bk (refsOf rws) ∧ RowsOk H m rws ∧ 1 ≤ m ∧ m ≤ 7 ∧ rws.length ≤ 300
theorem BookAt.same {K : PySem.W.Frag} {H H' : Hp} {bk : Addr} {rws : List RW} {m : Nat} (b : BookAt K H bk rws m) (e : Same H H') : BookAt K H' bk rws m := ⟨e.seq b.1, b.2.1.same e, b.2.2⟩
/-- a rule in the heap: its word (settle or not), its sets -/
def wordS (st : Bool) : Str := if st = true then "settle" else "deal"
def RuleAt (H : Hp) (r : Addr) (st : Bool) (x y : Nat) : Prop := H r = some (.tup [.str (wordS st), vN x, vN y])
def ROk (rws : List RW) (st : Bool) (x y : Nat) : Prop := if st = true then SetOk rws x y else DealOk rws x y
def RBad (rws : List RW) (st : Bool) (x y : Nat) (a b : RW) : Prop := if st = true then SetBad rws x y a b else DealBad rws x y a b
theorem RBad.not {rws : List RW} {st : Bool} {x y : Nat} {a b : RW} (h : RBad rws st x y a b) : ¬ ROk rws st x y := fun ok => by
  unfold RBad at h
  unfold ROk at ok
  cases st with
  | true =>
    simp only [if_true] at h ok
    exact h.2.2.2 (ok a h.1 b h.2.1 h.2.2.1)
  | false =>
    simp only [Bool.false_eq_true, if_false] at h ok
    obtain ⟨c, hc, e⟩ := ok a h.1 b h.2.1 h.2.2.1
    exact h.2.2.2 c hc e
structure Rl where
  r : Addr
  st : Bool
  x : Nat
  y : Nat
end L2

namespace L2
open PySem PySem.Spec PyProof.Rows
/-! ### the book of a set -/
def spRules (K : PySem.W.Frag) : Sp := fun vs H Q _ => ∃ (st : Addr) (ns : List Int) (k m n : Nat), vs = [.ref st, vN m, vN n] ∧ STF K H st ns k ∧ k ≤ 800000 ∧ ns.length ≤ 63 ∧ 1 ≤ m ∧ m ≤ 7 ∧ n ≤ 100 ∧
  ∀ (rs : List Rl) (p : Addr) (k' : Nat) (H' : Hp), rs.length = n → (∀ r ∈ rs, RuleAt H' r.r r.st r.x r.y ∧ r.x < 2 ^ m ∧ r.y < 2 ^ m) → k' ≤ k + 7 * n → H p = none → H' p = some (.lst (rs.map fun r => V.ref r.r)) → STF K H' st ns k' → But st H H' → Q (.ref p) H'
end L2

namespace L2
open PySem PySem.Spec PyProof.Rows
/-! ### tuples in lists, lists of lists compared -/
section
variable {X : Cx} {K : PySem.W.Frag} {pins : List (Addr × Obj)} {σ : St} {H : Hp} {s : Shared}
end
end L2

namespace L2
open PySem PySem.Spec PyProof.Rows
/-! ### k11: what two rows show -/
end L2

namespace L2
open PySem PySem.Spec PyProof.Rows
/-! ### paths joined -/
section
variable {X : Cx} {st : Stmt} {rest : List Stmt} {t u : TS}
theorem pss_cut (P : St → Hp → Prop) (h1 : PS X st t) (h2 : PSs X rest u) : PSs X (st :: rest) (fun D σ H => t { D with nx := P } σ H ∧ ∀ σ' H', P σ' H' → u D σ' H') := by
  intro pins s σ H D I h
  refine wpAny_execs_cons (thn (h1 pins s σ H { D with nx := P } I h.1) fun f s1 q => ?_)
  cases f with
  | next =>
    obtain ⟨σ', H', I', q⟩ := q
    exact h2 pins s1 σ' H' D I' (h.2 σ' H' q)
  | ret v => exact q
  | brk => exact q
  | cont => exact q
end
/-! ### truths told one by one -/
/-- what the law holds: the book, the rules, what is handed in -/
structure Held (m : Nat) (rws : List RW) (rls : List Rl) (p g l1 l2 h : Addr) (H : Hp) : Prop where
  rows : RowsOk H m rws
  rules : ∀ r ∈ rls, RuleAt H r.r r.st r.x r.y
  hp : H p = some (.lst (refsOf rws))
  hg : H g = some (.lst (rls.map fun r => V.ref r.r))
  h1 : H l1 = some (.lst (refsOf rws))
  h2 : H l2 = some (.lst (rls.map fun r => V.ref r.r))
  hh : H h = some (.lst [.ref l1, .ref l2])
theorem Held.same {m : Nat} {rws : List RW} {rls : List Rl} {p g l1 l2 h : Addr} {H H' : Hp} (A : Held m rws rls p g l1 l2 h H) (s : Same H H') : Held m rws rls p g l1 l2 h H' :=
  ⟨A.rows.same s, fun r hr => s _ _ (A.rules r hr), s _ _ A.hp, s _ _ A.hg, s _ _ A.h1, s _ _ A.h2, s _ _ A.hh⟩
/-- another list of one's own is written -/
theorem Held.put {m : Nat} {rws : List RW} {rls : List Rl} {p g l1 l2 h tr : Addr} {H0 H : Hp} {xs ys : List V} (A0 : Held m rws rls p g l1 l2 h H0) (hn : H0 tr = none) (A : Held m rws rls p g l1 l2 h H) (ht : H tr = some (.lst xs)) : Held m rws rls p g l1 l2 h (upd H tr (.lst ys)) := by
  have n : ∀ {b : Addr} {o : HO}, H0 b = some o → b ≠ tr := fun e => ne_of_none e hn
  exact ⟨fun rw0 h0 => ⟨tup_put ht _ _ (A.rows rw0 h0).1, (A.rows rw0 h0).2⟩, fun r hr => tup_put ht _ _ (A.rules r hr),
    by rw [upd_ne (n A0.hp)]; exact A.hp, by rw [upd_ne (n A0.hg)]; exact A.hg, by rw [upd_ne (n A0.h1)]; exact A.h1, by rw [upd_ne (n A0.h2)]; exact A.h2, by rw [upd_ne (n A0.hh)]; exact A.hh⟩
def Five (rls : List Rl) (xs : List V) (H : Hp) : Prop := ∀ v ∈ xs, ∃ (la : Addr) (sub : List Rl), v = .ref la ∧ H la = some (.lst (sub.map fun r => V.ref r.r)) ∧ sub.length ≤ 200 ∧ ∀ r ∈ sub, r ∈ rls
theorem Five.same {rls : List Rl} {xs : List V} {H H' : Hp} (F : Five rls xs H) (s : Same H H') : Five rls xs H' := fun v hv => by
  obtain ⟨la, sub, e, h1, h2, h3⟩ := F v hv
  exact ⟨la, sub, e, s _ _ h1, h2, h3⟩
end L2

namespace L2
open PySem PySem.Spec PyProof.Rows
/-! ### for i, x in enumerate(a list) -/
section
variable {X : Cx} {pins : List (Addr × Obj)} {σ : St} {H : Hp} {s : Shared}
def Itn (K : PySem.W.Frag) (l : Addr) : It :=
  ⟨fun i H => ∃ xs x, SqL K H l xs ∧ xs[i]? = some x,
   fun i H v H' => ∃ t x, v = .ref t ∧ H t = none ∧ (∀ xs, SqL K H l xs → xs[i]? = some x) ∧ H' = upd H t (.tup [.int (i : Int), x]),
   fun i H => ∃ xs, SqL K H l xs ∧ xs.length ≤ i⟩
def tnN (e it l : Addr) (i : Nat) (h : Heap) : Prop := (∃ old, IsEnum h e it (i : Int) old) ∧ h.IsListIter it l i
theorem turn_enum {P : Program} {w : World} {K : PySem.W.Frag} {es : List Expr} {n : Nat} {tp : Pos} {e it l : Addr} (hne : e ≠ it) : Turn P w K (.Tuple es n tp) (Itn K l) [e, it] e (tnN e it l) where
  mem := by simp
  obj := fun i h st c hc => by
    obtain ⟨⟨old, hE⟩, ⟨oa, ea, _, da⟩⟩ := st
    simp only [List.mem_cons, List.not_mem_nil, or_false] at hc
    rcases hc with rfl | rfl
    · exact ⟨_, hE, fun v r => by cases r⟩
    · exact ⟨_, ea, fun v r => by rw [da] at r; cases r⟩
  keep := fun i h h' st k => by
    obtain ⟨⟨old, hE⟩, ha⟩ := st
    exact ⟨⟨old, k e (by simp) _ hE⟩, ha.at fun o z => k it (by simp) o z⟩
  item := by
    intro X hP hw hK hc i pins s σ H E I hf st hg
    subst hP hw hK
    obtain ⟨xs, x, hx, ex⟩ := hg
    obtain ⟨⟨old, hE⟩, ha⟩ := st
    obtain ⟨i1, r1, t1, _⟩ := I.list hx
    obtain ⟨x', ex', rx⟩ := r1.get ex
    refine wpAny_pyNext_enum_item hE ha t1.isList (x := x') (by simpa using ex') hne fun g c1 c2 c3 c4 c5 => ⟨_, rfl, ?_⟩
    refine wpAny_letOwnedTupleGo_enum c1 fun g' z' k' => ?_
    have nT : H s.heap.objs.size = none := I.fresh
    have lz : s.heap.objs.size ≠ e := Nat.ne_of_gt (Heap.lt_size hE)
    have IA : Inv X pins σ (upd H s.heap.objs.size (.tup [.int (i : Int), x])) { s with heap := s.heap.push { cls := .type "tuple", data := .seq #[.int (i : Int) s.toks, x'] }, toks := s.toks + 1 } :=
      I.laid (t' := s.toks + 1) (fun c o z => Heap.get?_push_of_some _ z) (Nat.le_refl _) (show ObjOk X.prog X.w _ _ _ (.tup [.int (i : Int), x]) from ⟨by show 2 ≤ sizeLine; decide, [.int (i : Int) s.toks, x'], .cons ⟨_, rfl⟩ (.cons rx .nil), ⟨_, Heap.get?_push_size _ rfl, rfl, _, rfl⟩⟩)
    have fp : ∀ c ∈ [e, it], FpOk X pins (upd H s.heap.objs.size (.tup [.int (i : Int), x])) c := fun c hc' => by
      obtain ⟨f0, f1, f2, f3, f4, f5⟩ := hf c hc'
      refine ⟨?_, f1, f2, f3, f4, f5⟩
      rw [upd_ne]
      · exact f0
      · have lt : c < s.heap.objs.size := by
          simp only [List.mem_cons, List.not_mem_nil, or_false] at hc'
          rcases hc' with rfl | rfl
          · exact Heap.lt_size hE
          · obtain ⟨_, z, _⟩ := ha; exact Heap.lt_size z
        exact Nat.ne_of_lt lt
    have IB : Inv X pins σ (upd H s.heap.objs.size (.tup [.int (i : Int), x])) { s with heap := g', toks := s.toks + 1 } := by
      refine IA.turnedL (t' := s.toks + 1) (h' := g') (fun c o hc' z => ?_) fp
      simp only [List.mem_cons, List.not_mem_nil, or_false, not_or] at hc'
      refine k'.extBut _ _ hc'.1 ?_
      by_cases hcT : c = s.heap.objs.size
      · subst hcT
        have e1 : (s.heap.push { cls := .type "tuple", data := .seq #[.int (i : Int) s.toks, x'] }).get? s.heap.objs.size = some { cls := .type "tuple", data := .seq #[.int (i : Int) s.toks, x'] } := Heap.get?_push_size _ rfl
        have e2 := e1.symm.trans z
        rw [← Option.some.inj e2]
        exact c3
      · exact c5 c o hc'.1 hc'.2 (by
          have e1 : (s.heap.push { cls := .type "tuple", data := .seq #[.int (i : Int) s.toks, x'] }).get? c = s.heap.get? c := Heap.get?_push_ne _ _ _ hcT
          rw [← e1]; exact z)
    refine ⟨.ref s.heap.objs.size, _, IB, rfl, ⟨_, x, rfl, nT, fun zs hz => by rw [I.list_inj hz hx]; exact ex, rfl⟩, ⟨⟨x', ?_⟩, c2.extBut k'.extBut hne.symm⟩, fun c hc' => (fp c hc').1⟩
    have ei : ((i + 1 : Nat) : Int) = (i : Int) + 1 := Int.natCast_succ i
    rw [ei]
    exact z'
  done := by
    intro X hP hw hK hc i pins s σ H E I hf st hg
    subst hP hw hK
    obtain ⟨xs, hx, hl⟩ := hg
    obtain ⟨⟨old, hE⟩, ha⟩ := st
    obtain ⟨i1, r1, t1, _⟩ := I.list hx
    have len := r1.length
    refine wpAny_pyNext_enum_end (I.ok.hd hc) hE ha t1.isList (by simp; omega) fun g hk => ⟨rfl, ?_⟩
    refine I.turnedL (t' := s.toks) (h' := g) (ch := [e, it]) (fun c o hc' z => ?_) hf
    simp only [List.mem_cons, List.not_mem_nil, or_false, not_or] at hc'
    exact hk c o hc'.2 z
  self := fun _ _ _ _ _ st h => by
    obtain ⟨⟨old, hE⟩, _⟩ := st
    exact wpAny_pyIter_enum hE h
def iEnum (K : PySem.W.Frag) (ta : TA) : TI := fun σ H R => ta σ H fun vs H1 => ∃ (l : Addr) (xs : List V), vs = [.ref l] ∧ SqL K H1 l xs ∧ R (Itn K l) H1
theorem pi_enum {K : PySem.W.Frag} {es : List Expr} {n : Nat} {tp : Pos} {e1 : Expr} {ta : TA} {np pos : Pos} (hK : X.K = K) (hg : Gl X "enumerate") (hm : X.mg "enumerate" = none) (ha : PA X [e1] ta)
    (hs : starEach [e1] X.env = [(false, eval e1 X.env)] := by rfl) :
    PI X (.Tuple es n tp) (.Call (.Name "enumerate" np) [e1] [] pos) (iEnum K ta) := by
  subst hK
  intro pins s σ H R I h
  refine Call_ (ld_blt I hg hm boot_enumerate (PyProof.Rows.callWith_type1 (thn (ha pos pins s σ H _ I h) fun us s1 ⟨vs, H1, I1, r1, q1⟩ => ?_) (by rw [hs]; rfl) (by rfl)))
  obtain ⟨l, xs, rfl, hl, r⟩ := q1
  obtain ⟨u1, rfl, ru1⟩ := r1.one
  cases ru1
  obtain ⟨i1, v1, t1, _⟩ := I1.list hl
  refine call_enumerate_list t1.isList fun g hE hi hz hk => ?_
  refine wpAny_pyIter_enum hE ⟨s1.heap.objs.size + 1, [s1.heap.objs.size + 1, s1.heap.objs.size], tnN (s1.heap.objs.size + 1) s1.heap.objs.size l, Itn X.K l, H1, rfl, I1.kept (t' := s1.toks) hk, turn_enum (Nat.succ_ne_self _), ⟨⟨_, hE⟩, hi⟩, fun c hc => ?_, r⟩
  have lc : s1.heap.objs.size ≤ c := by
    simp only [List.mem_cons, List.not_mem_nil, or_false] at hc
    rcases hc with rfl | rfl <;> omega
  exact I1.fpOk lc (I1.hok.fresh lc)
theorem for_enum {K : PySem.W.Frag} {l : Addr} {xs : List V} {g : TG} {tb : TS} {D : Ends} {σ : St} {H : Hp} (Pv : Nat → St → Hp → Prop) (h0 : Pv 0 σ H) (hl : ∀ i σ H, i ≤ xs.length → Pv i σ H → SqL K H l xs)
    (hs : ∀ i x σ H t, xs[i]? = some x → Pv i σ H → H t = none → g (.ref t) σ (upd H t (.tup [.int (i : Int), x])) fun σ2 H2 => tb { D with nx := Pv (i + 1), ct := Pv (i + 1), bk := D.nx } σ2 H2) (hd : ∀ σ H, Pv xs.length σ H → D.nx σ H) :
    ∃ W : Nat → Nat → St → Hp → Prop, (∃ m, W 0 m σ H) ∧ ∀ i m σ H, W i m σ H →
      ((Itn K l).stop i H ∧ D.nx σ H) ∨ ((Itn K l).go i H ∧ ∃ N : St → Hp → Prop, (∀ σ' H', N σ' H' → ∃ m', m' < m ∧ W (i + 1) m' σ' H') ∧ ∀ x H', (Itn K l).yld i H x H' → g x σ H' fun σ2 H2 => tb { D with nx := N, ct := N, bk := D.nx } σ2 H2) := by
  refine ⟨fun i m σ H => m = xs.length - i ∧ i ≤ xs.length ∧ Pv i σ H, ⟨xs.length, by simp, Nat.zero_le _, h0⟩, ?_⟩
  rintro i m σ H ⟨rfl, hi, pv⟩
  have h1 := hl i σ H hi pv
  by_cases lt : i < xs.length
  · refine .inr ⟨⟨xs, xs[i], h1, by simp [lt]⟩, Pv (i + 1), fun σ' H' p' => ⟨xs.length - (i + 1), by omega, rfl, lt, p'⟩, fun v H' yv => ?_⟩
    obtain ⟨t, x, rfl, nt, a3, rfl⟩ := yv
    exact hs i x σ H t (a3 xs h1) pv nt
  · obtain rfl : i = xs.length := by omega
    exact .inl ⟨⟨xs, h1, Nat.le_refl _⟩, hd σ H pv⟩
end
end L2

namespace L2
open PySem PySem.Spec PyProof.Rows
/-! ### == and != of values told as data -/
mutual
inductive DV (K : PySem.W.Frag) (H : Hp) : V → PyData → Prop
  | non : DV K H .non .none
  | bl (b : Bool) : DV K H (.bl b) (.bool b)
  | int (i : Int) : DV K H (.int i) (.int i)
  | str (x : Str) : DV K H (.str x) (.str x)
  | lst {a : Addr} {xs : List V} {ds : List PyData} : SqL K H a xs → DVs K H xs ds → DV K H (.ref a) (.list ds)
  | tup {a : Addr} {xs : List V} {ds : List PyData} : SqT K H a xs → DVs K H xs ds → DV K H (.ref a) (.tuple ds)
inductive DVs (K : PySem.W.Frag) (H : Hp) : List V → List PyData → Prop
  | nil : DVs K H [] []
  | cons {x : V} {xs : List V} {d : PyData} {ds : List PyData} : DV K H x d → DVs K H xs ds → DVs K H (x :: xs) (d :: ds)
end
section
variable {X : Cx} {K : PySem.W.Frag} {pins : List (Addr × Obj)} {σ : St} {H : Hp} {s : Shared}
mutual
theorem DV.reads (I : Inv X pins σ H s) : ∀ {v : V} {d : PyData} {u : Value}, DV X.K H v d → RelV v u → ∃ as, Reads s.heap u d as
  | _, _, _, .non, r => by obtain rfl := (show _ = Value.none from r); exact ⟨_, Reads.none⟩
  | _, _, _, .bl b, r => by obtain rfl := (show _ = Value.bool b from r); exact ⟨_, Reads.bool b⟩
  | _, _, _, .int i, r => by obtain ⟨t, rfl⟩ := r; exact ⟨_, .int i t⟩
  | _, _, _, .str x, r => by obtain ⟨t, rfl⟩ := r; exact ⟨_, .str x t⟩
  | _, _, _, .lst (a := a) hx hs, r => by
    obtain rfl := (show _ = Value.ref a from r)
    obtain ⟨its, rv, pl, _⟩ := I.list hx
    obtain ⟨as, ra⟩ := DVs.reads I hs rv
    obtain ⟨o, ho, hc, n, hd⟩ := pl.isList
    exact ⟨_, .list ho hc hd ra⟩
  | _, _, _, .tup (a := a) hx hs, r => by
    obtain rfl := (show _ = Value.ref a from r)
    obtain ⟨its, rv, pl, _⟩ := I.tuple hx
    obtain ⟨as, ra⟩ := DVs.reads I hs rv
    obtain ⟨o, ho, hc, n, hd⟩ := pl
    exact ⟨_, .tuple ho hc hd ra⟩
theorem DVs.reads (I : Inv X pins σ H s) : ∀ {vs : List V} {ds : List PyData} {us : List Value}, DVs X.K H vs ds → Vals vs us → ∃ as, ReadsAll s.heap us ds as
  | _, _, _, .nil, .nil => ⟨_, .nil⟩
  | _, _, _, .cons h hs, .cons r rs => by
    obtain ⟨as, ra⟩ := DV.reads I h r
    obtain ⟨bs, rb⟩ := DVs.reads I hs rs
    exact ⟨_, .cons ra rb⟩
end
def rEqD (K : PySem.W.Frag) (neg : Bool) : R2 := fun x y H Q => ∃ d1 d2 : PyData, DV K H x d1 ∧ DV K H y d2 ∧ SeqAt.shaped d1 = true ∧ SeqAt.shaped d2 = true ∧ SeqAt.noMix d1 d2 = true ∧ Q (.bl (if neg then !same d1 d2 else same d1 d2)) H
theorem op_eqD (h : X.K = K) (hu : X.A.units + 64 < cLine) : OpR X (compareOp .Eq) (rEqD K false) := by
  subst h
  intro pins s σ H x y v u Q I rx ry h
  obtain ⟨d1, d2, h1, h2, s1, s2, nm, q⟩ := h
  obtain ⟨as, ra⟩ := h1.reads I rx
  obtain ⟨bs, rb⟩ := h2.reads I ry
  exact eq_dataH_same ra rb s1 s2 hu nm ⟨.bl _, H, I, rfl, q⟩
theorem op_neD (h : X.K = K) (hu : X.A.units + 64 < cLine) : OpR X (compareOp .NotEq) (rEqD K true) := by
  subst h
  intro pins s σ H x y v u Q I rx ry h
  obtain ⟨d1, d2, h1, h2, s1, s2, nm, q⟩ := h
  obtain ⟨as, ra⟩ := h1.reads I rx
  obtain ⟨bs, rb⟩ := h2.reads I ry
  exact ne_dataH_same ra rb s1 s2 hu nm ⟨.bl _, H, I, rfl, q⟩
end
/-! lists of data of one form -/
section
variable {α : Type} {f : α → PyData}
theorem sameAll_map [DecidableEq α] (h : ∀ a b, same (f a) (f b) = decide (a = b)) : ∀ xs ys : List α, sameAll (xs.map f) (ys.map f) = decide (xs = ys)
  | [], [] => by simp [sameAll]
  | [], _ :: _ => by simp [sameAll]
  | _ :: _, [] => by simp [sameAll]
  | x :: xs, y :: ys => by
    simp only [List.map_cons, sameAll, h, sameAll_map h xs ys]
    by_cases e : x = y <;> simp [e]
theorem noMixAll_map (h : ∀ a b, SeqAt.noMix (f a) (f b) = true) : ∀ xs ys : List α, SeqAt.noMixAll (xs.map f) (ys.map f) = true
  | [], [] => by simp [SeqAt.noMixAll]
  | [], _ :: _ => by simp [SeqAt.noMixAll]
  | _ :: _, [] => by simp [SeqAt.noMixAll]
  | x :: xs, y :: ys => by simp [SeqAt.noMixAll, h, noMixAll_map h xs ys]
theorem canLayAll_map (h : ∀ a, PyData.canLay0 (f a) = true) : ∀ xs : List α, PyData.canLayAll0 (xs.map f) = true
  | [] => by simp [PyData.canLayAll0]
  | x :: xs => by simp [PyData.canLayAll0, h, canLayAll_map h xs]
theorem depthAll_map {n : Nat} (h : ∀ a, PyData.depth (f a) ≤ n) : ∀ xs : List α, PyData.depthAll (xs.map f) ≤ n
  | [] => by simp [PyData.depthAll]
  | x :: xs => by
    have h1 := h x
    have h2 := depthAll_map h xs
    simp only [List.map_cons, PyData.depthAll]
    omega
theorem shaped_map (h : ∀ a, PyData.canLay0 (f a) = true) (hd : ∀ a, PyData.depth (f a) ≤ 10) (xs : List α) : SeqAt.shaped (.list (xs.map f)) = true := by
  have h2 : PyData.depth (.list (xs.map f)) ≤ 64 := by
    have := depthAll_map hd xs
    simp only [PyData.depth]
    omega
  show (PyData.canLay0 (.list (xs.map f)) && decide (PyData.depth (.list (xs.map f)) ≤ 64)) = true
  rw [Bool.and_eq_true]
  exact ⟨by simp only [PyData.canLay0]; exact canLayAll_map h xs, decide_eq_true h2⟩
end
/-- pairs of ints -/
def dP (p : Int × Int) : PyData := .tuple [.int p.1, .int p.2]
theorem same_dP (a b : Int × Int) : same (dP a) (dP b) = decide (a = b) := by
  unfold dP
  simp only [same, sameAll]
  obtain ⟨a1, a2⟩ := a
  obtain ⟨b1, b2⟩ := b
  by_cases h1 : a1 = b1 <;> by_cases h2 : a2 = b2 <;> simp [h1, h2]
theorem noMix_dP (a b : Int × Int) : SeqAt.noMix (dP a) (dP b) = true := by unfold dP; simp [SeqAt.noMix, SeqAt.noMixAll]
theorem canLay_dP (a : Int × Int) : PyData.canLay0 (dP a) = true := by unfold dP; simp [PyData.canLay0, PyData.canLayAll0]
theorem depth_dP (a : Int × Int) : PyData.depth (dP a) ≤ 10 := by unfold dP; simp [PyData.depth, PyData.depthAll]
/-- rules -/
def dR (r : Bool × Nat × Nat) : PyData := .tuple [.str (wordS r.1), .int (r.2.1 : Int), .int (r.2.2 : Int)]
theorem noMix_dR (a b : Bool × Nat × Nat) : SeqAt.noMix (dR a) (dR b) = true := by unfold dR; simp [SeqAt.noMix, SeqAt.noMixAll]
theorem canLay_dR (a : Bool × Nat × Nat) : PyData.canLay0 (dR a) = true := by
  unfold dR
  obtain ⟨b, x, y⟩ := a
  have h1 : PyData.strOk (wordS true) = true := by decide +kernel
  have h2 : PyData.strOk (wordS false) = true := by decide +kernel
  cases b <;> simp only [PyData.canLay0, PyData.canLayAll0, h1, h2, Bool.and_true]
theorem depth_dR (a : Bool × Nat × Nat) : PyData.depth (dR a) ≤ 10 := by unfold dR; simp [PyData.depth, PyData.depthAll]
/-! xs[::-1] -/
section
variable {X : Cx} {K : PySem.W.Frag} {e : Expr} {te : TE} {ste : Expr} {tst : TO} {pos p2 : Pos}
end
/-! slices told in naturals -/
theorem cut_take (xs : List V) (k : Nat) : cutV xs none (some (k : Int)) = xs.take k := by
  unfold cutV
  show (xs.drop 0).take (HT.sIx xs.length xs.length (some ((k : Nat) : Int)) - 0) = _
  rw [HT.sIx_nat, List.drop_zero, Nat.sub_zero, List.take_eq_take_iff]
  omega
theorem cut_drop (xs : List V) (k : Nat) : cutV xs (some (k : Int)) none = xs.drop k := by
  unfold cutV
  rw [HT.sIx_nat, HT.sIx_none]
  by_cases h : k ≤ xs.length
  · rw [Nat.min_eq_left h, List.take_of_length_le (by rw [List.length_drop]; exact Nat.le_refl _)]
  · rw [Nat.min_eq_right (by omega), List.drop_eq_nil_of_le (Nat.le_refl _), List.drop_eq_nil_of_le (by omega), List.take_nil]
end L2

namespace L2
open PySem PySem.Spec PyProof.Rows
theorem Same.none {H H' : Hp} {p : Addr} (e : Same H H') (h : H' p = none) : H p = none := by
  cases z : H p with
  | none => rfl
  | some o => rw [e _ _ z] at h; cases h
/-! ### stage 2's laws: what their shared defs promise -/
def usableB (st : Bool) (x y b : Nat) : Bool := decide (x &&& b = 0) && !decide (y &&& b = 0) && (st || !decide (y &&& b = b))
def spUsable : Sp := fun vs H Q _ => ∃ (r : Addr) (st : Bool) (x y b : Nat), vs = [.ref r, vN b] ∧ RuleAt H r st x y ∧ Q (.bl (usableB st x y b)) H
def inN (y : Nat) (bs : List Nat) (at_ : Nat) : Nat := bs.getD at_ 0 &&& y
def outN (y : Nat) (bs : List Nat) (at_ : Nat) : Nat := bs.getD at_ 0 - inN y bs at_
def behindFx (st : Bool) (y fx : Nat) (bs : List Nat) (at_ : Nat) : Nat := if st = true then fx + inN y bs at_ else fx
def behindBs (st : Bool) (y : Nat) (bs : List Nat) (at_ : Nat) : List Nat :=
  bs.take at_ ++ (if st = true then (if 0 < outN y bs at_ then [outN y bs at_] else []) else [inN y bs at_, outN y bs at_]) ++ bs.drop (at_ + 1)
def spWholeI : Sp := fun vs H Q _ => ∃ i : Int, vs = [.int i] ∧ Q (.bl true) H
end L2

namespace L2
/-! ### why a draw by 48271 comes to a multiple of four -/
abbrev pM : Nat := 2147483647
abbrev gM : Nat := 48271
theorem pw0 : gM ^ 0 % pM = 1 := rfl
end L2

namespace L2
/-! ### the mathematics of unfolding -/
theorem or_add : ∀ (a b : Nat), a &&& b = 0 → a ||| b = a + b := by
  intro a
  induction a using Nat.strongRecOn with
  | _ a ih =>
    intro b h
    by_cases a0 : a = 0
    · subst a0; simp
    have i := ih (a / 2) (by omega) (b / 2) (by rw [← Nat.and_div_two, h])
    rw [← Nat.or_div_two] at i
    have m1 := Nat.and_mod_two_eq_one (a := a) (b := b)
    have m2 := Nat.or_mod_two_eq_one (a := a) (b := b)
    rw [h] at m1
    omega
theorem dis_iff {a b : Nat} : a &&& b = 0 ↔ ∀ k, a.testBit k = true → b.testBit k = false := by
  constructor
  · intro h k ha
    have e : (a &&& b).testBit k = (0 : Nat).testBit k := by rw [h]
    rw [Nat.testBit_and, Nat.zero_testBit, ha, Bool.true_and] at e
    exact e
  · intro h
    refine Nat.eq_of_testBit_eq fun k => ?_
    rw [Nat.testBit_and, Nat.zero_testBit]
    cases ha : a.testBit k with
    | false => rfl
    | true => rw [h k ha]; rfl
theorem dis_comm {a b : Nat} (h : a &&& b = 0) : b &&& a = 0 := by rw [Nat.and_comm]; exact h
def SubN (c b : Nat) : Prop := ∀ k, c.testBit k = true → b.testBit k = true
theorem dis_sub {a b c : Nat} (h : a &&& b = 0) (s : SubN c b) : a &&& c = 0 := dis_iff.mpr fun k ha => by
  cases hc : c.testBit k with
  | false => rfl
  | true => have := dis_iff.mp h k ha; rw [s k hc] at this; exact this
theorem dis_sub' {a b c : Nat} (h : b &&& a = 0) (s : SubN c b) : c &&& a = 0 := dis_comm (dis_sub (dis_comm h) s)
theorem sub_xor (b y : Nat) : b - (b &&& y) = b ^^^ (b &&& y) := by
  have h0 : (b ^^^ (b &&& y)) &&& (b &&& y) = 0 := dis_iff.mpr fun k h => by
    rw [Nat.testBit_xor, Nat.testBit_and] at h
    rw [Nat.testBit_and]
    cases hb : b.testBit k <;> cases hy : y.testBit k <;> rw [hb, hy] at h <;> first | rfl | (simp at h)
  have h1 : (b ^^^ (b &&& y)) ||| (b &&& y) = b := by
    refine Nat.eq_of_testBit_eq fun k => ?_
    rw [Nat.testBit_or, Nat.testBit_xor, Nat.testBit_and]
    cases hb : b.testBit k <;> cases hy : y.testBit k <;> rfl
  have h2 := or_add _ _ h0
  omega
theorem tb_out (b y k : Nat) : (b - (b &&& y)).testBit k = (b.testBit k && !y.testBit k) := by
  rw [sub_xor, Nat.testBit_xor, Nat.testBit_and]
  cases b.testBit k <;> cases y.testBit k <;> rfl
theorem sub_in (b y : Nat) : SubN (b &&& y) b := fun k h => by
  rw [Nat.testBit_and, Bool.and_eq_true] at h
  exact h.1
theorem sub_out (b y : Nat) : SubN (b - (b &&& y)) b := fun k h => by
  rw [tb_out, Bool.and_eq_true] at h
  exact h.1
theorem dis_in_out (b y : Nat) : (b &&& y) &&& (b - (b &&& y)) = 0 := dis_iff.mpr fun k h => by
  rw [Nat.testBit_and, Bool.and_eq_true] at h
  rw [tb_out, h.1, h.2]; rfl
theorem full_dis {m x : Nat} (h : x < 2 ^ m) : x &&& (2 ^ m - 1 - x) = 0 := dis_iff.mpr fun k hk => by
  have e : 2 ^ m - 1 - x = 2 ^ m - (x + 1) := by omega
  rw [e, Nat.testBit_two_pow_sub_succ h, hk]
  simp
structure Good (m fx : Nat) (bs : List Nat) : Prop where
  sum : fx + bs.sum = 2 ^ m - 1
  pos : ∀ b ∈ bs, 0 < b
  dis : ∀ b ∈ bs, fx &&& b = 0
  pw : bs.Pairwise fun a b => a &&& b = 0
theorem len_sum : ∀ {bs : List Nat}, (∀ b ∈ bs, 0 < b) → bs.length ≤ bs.sum
  | [], _ => Nat.le_refl _
  | b :: bs, h => by
    have h1 := h b (List.mem_cons_self ..)
    have h2 := len_sum (bs := bs) fun c hc => h c (List.mem_cons_of_mem _ hc)
    rw [List.length_cons, List.sum_cons]
    omega
theorem mem_sum : ∀ {bs : List Nat} {b : Nat}, b ∈ bs → b ≤ bs.sum
  | c :: bs, b, h => by
    rw [List.sum_cons]
    rcases List.mem_cons.mp h with rfl | h
    · omega
    · have := mem_sum h
      omega
theorem pow7 {m : Nat} (h : m ≤ 7) : 2 ^ m ≤ 128 := Nat.pow_le_pow_right (by decide) h
theorem Good.len {m fx : Nat} {bs : List Nat} (g : Good m fx bs) (h : m ≤ 7) : bs.length ≤ 127 := by
  have h1 := len_sum g.pos
  have h2 := g.sum
  have h3 := pow7 h
  omega
theorem Good.lt {m fx : Nat} {bs : List Nat} (g : Good m fx bs) {b : Nat} (hb : b ∈ bs) : b < 2 ^ m := by
  have h1 := mem_sum hb
  have h2 := g.sum
  have h3 := Nat.two_pow_pos m
  omega
theorem split_at {bs : List Nat} {i : Nat} (h : i < bs.length) : bs = bs.take i ++ bs.getD i 0 :: bs.drop (i + 1) := by
  have e : bs.getD i 0 = bs[i] := by rw [List.getD_eq_getElem?_getD, List.getElem?_eq_getElem h]; rfl
  rw [e, ← List.drop_eq_getElem_cons h, List.take_append_drop]
theorem usable_in {st : Bool} {x y b : Nat} (h : usableB st x y b = true) : x &&& b = 0 ∧ 0 < b &&& y ∧ (st = true ∨ b &&& y < b) := by
  unfold usableB at h
  rw [Bool.and_eq_true, Bool.and_eq_true] at h
  obtain ⟨⟨h1, h2⟩, h3⟩ := h
  have e1 := of_decide_eq_true h1
  have e2 : ¬ (y &&& b = 0) := by
    intro z; rw [decide_eq_true z] at h2; cases h2
  rw [Nat.and_comm] at e2
  refine ⟨e1, by omega, ?_⟩
  rw [Bool.or_eq_true] at h3
  rcases h3 with h3 | h3
  · exact .inl h3
  · right
    have e3 : ¬ (y &&& b = b) := by
      intro z; rw [decide_eq_true z] at h3; cases h3
    rw [Nat.and_comm] at e3
    have := Nat.and_le_left (n := b) (m := y)
    omega
theorem Good.use {m fx : Nat} {bs : List Nat} (g : Good m fx bs) {st : Bool} {x y i : Nat} (hi : i < bs.length) (hu : usableB st x y (bs.getD i 0) = true) :
    Good m (behindFx st y fx bs i) (behindBs st y bs i) ∧ 2 * (behindBs st y bs i).sum - (behindBs st y bs i).length < 2 * bs.sum - bs.length := by
  obtain ⟨_, hin, hout⟩ := usable_in hu
  have e := split_at hi
  have ls := len_sum g.pos
  unfold behindFx behindBs outN inN
  generalize bs.getD i 0 = b at e hin hout
  generalize bs.take i = p at e
  generalize bs.drop (i + 1) = q at e
  subst e
  have le : b &&& y ≤ b := Nat.and_le_left
  obtain ⟨sm, ps, ds, pw⟩ := g
  have hb : b ∈ p ++ b :: q := List.mem_append_right _ (List.mem_cons_self ..)
  have hp : ∀ c ∈ p, c ∈ p ++ b :: q := fun c hc => List.mem_append_left _ hc
  have hq : ∀ c ∈ q, c ∈ p ++ b :: q := fun c hc => List.mem_append_right _ (List.mem_cons_of_mem _ hc)
  have db := ds b hb
  rw [List.pairwise_append, List.pairwise_cons] at pw
  obtain ⟨pp, ⟨bq, qq⟩, pq⟩ := pw
  have pb : ∀ c ∈ p, c &&& b = 0 := fun c hc => pq c hc b (List.mem_cons_self ..)
  have pq' : ∀ c ∈ p, ∀ d ∈ q, c &&& d = 0 := fun c hc d hd => pq c hc d (List.mem_cons_of_mem _ hd)
  have sm' : (p ++ b :: q).sum = p.sum + (b + q.sum) := by rw [List.sum_append, List.sum_cons]
  have ln' : (p ++ b :: q).length = p.length + (q.length + 1) := by rw [List.length_append, List.length_cons]
  rw [sm'] at sm ls
  rw [sm', ln']
  rw [ln'] at ls
  have lp : p.length ≤ p.sum := len_sum fun c hc => ps c (hp c hc)
  have lq : q.length ≤ q.sum := len_sum fun c hc => ps c (hq c hc)
  have orfx : ∀ c, fx &&& c = 0 → (b &&& y) &&& c = 0 → (fx + (b &&& y)) &&& c = 0 := fun c h1 h2 => by
    rw [← or_add _ _ (dis_sub db (sub_in b y))]
    refine dis_iff.mpr fun k hk => ?_
    rw [Nat.testBit_or, Bool.or_eq_true] at hk
    rcases hk with hk | hk
    · exact dis_iff.mp h1 k hk
    · exact dis_iff.mp h2 k hk
  have inp : ∀ c ∈ p, (b &&& y) &&& c = 0 := fun c hc => dis_comm (dis_sub (pb c hc) (sub_in b y))
  have inq : ∀ c ∈ q, (b &&& y) &&& c = 0 := fun c hc => dis_sub' (bq c hc) (sub_in b y)
  have outp : ∀ c ∈ p, c &&& (b - (b &&& y)) = 0 := fun c hc => dis_sub (pb c hc) (sub_out b y)
  have outq : ∀ c ∈ q, (b - (b &&& y)) &&& c = 0 := fun c hc => dis_sub' (bq c hc) (sub_out b y)
  cases st with
  | true =>
    simp only [if_true]
    by_cases ho : 0 < b - (b &&& y)
    · rw [if_pos ho]
      refine ⟨⟨?_, ?_, ?_, ?_⟩, ?_⟩
      · rw [List.append_assoc, List.sum_append, List.singleton_append, List.sum_cons]; omega
      · intro c hc
        rcases List.mem_append.mp hc with hc | hc
        · rcases List.mem_append.mp hc with hc | hc
          · exact ps c (hp c hc)
          · rw [List.mem_singleton.mp hc]; exact ho
        · exact ps c (hq c hc)
      · intro c hc
        rcases List.mem_append.mp hc with hc | hc
        · rcases List.mem_append.mp hc with hc | hc
          · exact orfx c (ds c (hp c hc)) (inp c hc)
          · rw [List.mem_singleton.mp hc]; exact orfx _ (dis_sub db (sub_out b y)) (dis_in_out b y)
        · exact orfx c (ds c (hq c hc)) (inq c hc)
      · rw [List.append_assoc, List.singleton_append, List.pairwise_append, List.pairwise_cons]
        refine ⟨pp, ⟨outq, qq⟩, fun c hc d hd => ?_⟩
        rcases List.mem_cons.mp hd with rfl | hd
        · exact outp c hc
        · exact pq' c hc d hd
      · rw [List.append_assoc, List.sum_append, List.singleton_append, List.sum_cons, List.length_append, List.length_cons]; omega
    · rw [if_neg ho, List.append_nil]
      refine ⟨⟨?_, ?_, ?_, ?_⟩, ?_⟩
      · rw [List.sum_append]; omega
      · intro c hc
        rcases List.mem_append.mp hc with hc | hc
        · exact ps c (hp c hc)
        · exact ps c (hq c hc)
      · intro c hc
        rcases List.mem_append.mp hc with hc | hc
        · exact orfx c (ds c (hp c hc)) (inp c hc)
        · exact orfx c (ds c (hq c hc)) (inq c hc)
      · rw [List.pairwise_append]
        exact ⟨pp, qq, pq'⟩
      · rw [List.sum_append, List.length_append]; omega
  | false =>
    have ho : 0 < b - (b &&& y) := by
      rcases hout with h | h
      · cases h
      · omega
    simp only [Bool.false_eq_true, if_false]
    rw [List.append_assoc, List.cons_append, List.cons_append, List.nil_append]
    refine ⟨⟨?_, ?_, ?_, ?_⟩, ?_⟩
    · rw [List.sum_append, List.sum_cons, List.sum_cons]; omega
    · intro c hc
      rcases List.mem_append.mp hc with hc | hc
      · exact ps c (hp c hc)
      · rcases List.mem_cons.mp hc with rfl | hc
        · exact hin
        · rcases List.mem_cons.mp hc with rfl | hc
          · exact ho
          · exact ps c (hq c hc)
    · intro c hc
      rcases List.mem_append.mp hc with hc | hc
      · exact ds c (hp c hc)
      · rcases List.mem_cons.mp hc with rfl | hc
        · exact dis_sub db (sub_in b y)
        · rcases List.mem_cons.mp hc with rfl | hc
          · exact dis_sub db (sub_out b y)
          · exact ds c (hq c hc)
    · rw [List.pairwise_append, List.pairwise_cons, List.pairwise_cons]
      refine ⟨pp, ⟨fun d hd => ?_, outq, qq⟩, fun c hc d hd => ?_⟩
      · rcases List.mem_cons.mp hd with rfl | hd
        · exact dis_in_out b y
        · exact inq d hd
      · rcases List.mem_cons.mp hd with rfl | hd
        · exact dis_comm (inp c hc)
        · rcases List.mem_cons.mp hd with rfl | hd
          · exact outp c hc
          · exact pq' c hc d hd
    · rw [List.sum_append, List.sum_cons, List.sum_cons, List.length_append, List.length_cons, List.length_cons]; omega
/-- the blocks at the beginning -/
def beginBs (m x : Nat) : List Nat := if x < 2 ^ m - 1 then [2 ^ m - 1 - x] else []
theorem Good.begin {m x : Nat} (h : x < 2 ^ m) : Good m x (beginBs m x) := by
  unfold beginBs
  split
  · refine ⟨by simp; omega, fun b hb => ?_, fun b hb => ?_, List.pairwise_singleton _ _⟩
    · rw [List.mem_singleton.mp hb]; omega
    · rw [List.mem_singleton.mp hb]; exact full_dis h
  · exact ⟨by simp; omega, fun b hb => absurd hb List.not_mem_nil, fun b hb => absurd hb List.not_mem_nil, List.Pairwise.nil⟩
/-! uses, in their order -/
abbrev RD := Bool × Nat × Nat
def usB (r : RD) (b : Nat) : Bool := usableB r.1 r.2.1 r.2.2 b
def usesR (r : RD) (k : Nat) (bs : List Nat) (n : Nat) : List (Nat × Nat) := ((List.range n).filter fun a => usB r (bs.getD a 0)).map fun a => (k, a)
def rdAt (rs : List RD) (k : Nat) : RD := rs.getD k (false, 0, 0)
def usesN (rs : List RD) (bs : List Nat) (i : Nat) : List (Nat × Nat) := (List.range i).flatMap fun k => usesR (rdAt rs k) k bs bs.length
theorem usesR_succ (r : RD) (k : Nat) (bs : List Nat) (n : Nat) : usesR r k bs (n + 1) = usesR r k bs n ++ (if usB r (bs.getD n 0) = true then [(k, n)] else []) := by
  unfold usesR
  rw [List.range_succ, List.filter_append, List.map_append]
  congr 1
  cases h : usB r (bs.getD n 0) <;> simp only [List.filter_cons, List.filter_nil, h] <;> rfl
theorem usesN_succ (rs : List RD) (bs : List Nat) (i : Nat) : usesN rs bs (i + 1) = usesN rs bs i ++ usesR (rdAt rs i) i bs bs.length := by
  unfold usesN
  rw [List.range_succ, List.flatMap_append, List.flatMap_cons, List.flatMap_nil, List.append_nil]
theorem mem_usesR {r : RD} {k n : Nat} {bs : List Nat} {u : Nat × Nat} (h : u ∈ usesR r k bs n) : u.1 = k ∧ u.2 < n ∧ usB r (bs.getD u.2 0) = true := by
  unfold usesR at h
  obtain ⟨a, ha, rfl⟩ := List.mem_map.mp h
  obtain ⟨h1, h2⟩ := List.mem_filter.mp ha
  exact ⟨rfl, List.mem_range.mp h1, h2⟩
theorem mem_usesN {rs : List RD} {bs : List Nat} {i : Nat} {u : Nat × Nat} (h : u ∈ usesN rs bs i) : u.1 < i ∧ u.2 < bs.length ∧ usB (rdAt rs u.1) (bs.getD u.2 0) = true := by
  unfold usesN at h
  obtain ⟨k, hk, hu⟩ := List.mem_flatMap.mp h
  obtain ⟨rfl, h2, h3⟩ := mem_usesR hu
  exact ⟨List.mem_range.mp hk, h2, h3⟩
theorem uses_nil {rs : List RD} {bs : List Nat} (h : usesN rs bs rs.length = []) {r : RD} (hr : r ∈ rs) {b : Nat} (hb : b ∈ bs) : usB r b = false := by
  cases e : usB r b with
  | false => rfl
  | true =>
    exfalso
    obtain ⟨k, hk, rfl⟩ := List.getElem_of_mem hr
    obtain ⟨a, ha, rfl⟩ := List.getElem_of_mem hb
    have e1 : rdAt rs k = rs[k] := by unfold rdAt; rw [List.getD_eq_getElem?_getD, List.getElem?_eq_getElem hk]; rfl
    have e2 : bs.getD a 0 = bs[a] := by rw [List.getD_eq_getElem?_getD, List.getElem?_eq_getElem ha]; rfl
    have : (k, a) ∈ usesN rs bs rs.length := by
      unfold usesN
      refine List.mem_flatMap.mpr ⟨k, List.mem_range.mpr hk, ?_⟩
      unfold usesR
      refine List.mem_map.mpr ⟨a, List.mem_filter.mpr ⟨List.mem_range.mpr ha, ?_⟩, rfl⟩
      rw [e1, e2]; exact e
    rw [h] at this
    exact absurd this List.not_mem_nil
/-! a run -/
structure US where
  fx : Nat
  bs : List Nat
  st : List (Nat × Nat)
def stepS (rs : List RD) (s : US) (u : Nat × Nat) : US :=
  ⟨behindFx (rdAt rs u.1).1 (rdAt rs u.1).2.2 s.fx s.bs u.2, behindBs (rdAt rs u.1).1 (rdAt rs u.1).2.2 s.bs u.2, s.st ++ [(u.1, s.bs.getD u.2 0)]⟩
inductive Run (rs : List RD) : US → US → Prop
  | done {s : US} : usesN rs s.bs rs.length = [] → Run rs s s
  | step {s t : US} {u : Nat × Nat} {us : List (Nat × Nat)} : usesN rs s.bs rs.length = u :: us → Run rs (stepS rs s u) t → Run rs s t
theorem Run.det {rs : List RD} {s t : US} (h : Run rs s t) : ∀ {t' : US}, Run rs s t' → t = t' := by
  induction h with
  | done h =>
    intro t' h'
    cases h' with
    | done _ => rfl
    | step e _ => rw [h] at e; cases e
  | step e _ ih =>
    intro t' h'
    cases h' with
    | done h => rw [h] at e; cases e
    | step e' r' =>
      rw [e] at e'
      injection e' with e1 e2
      subst e1
      exact ih r'
def muS (bs : List Nat) : Nat := 2 * bs.sum - bs.length
theorem step_good {rs : List RD} {s : US} {u : Nat × Nat} {m : Nat} (g : Good m s.fx s.bs) (h : u ∈ usesN rs s.bs rs.length) : Good m (stepS rs s u).fx (stepS rs s u).bs ∧ muS (stepS rs s u).bs < muS s.bs := by
  obtain ⟨_, h2, h3⟩ := mem_usesN h
  exact g.use h2 h3
theorem step_st (rs : List RD) (s : US) (u : Nat × Nat) : (stepS rs s u).st.length = s.st.length + 1 := by
  unfold stepS
  rw [List.length_append]; rfl
theorem usesR_pre (r : RD) (k : Nat) (bs : List Nat) (j : Nat) : ∀ d, ∃ z, usesR r k bs (j + d) = usesR r k bs j ++ z
  | 0 => ⟨[], by rw [List.append_nil]; rfl⟩
  | d + 1 => by
    obtain ⟨z, e⟩ := usesR_pre r k bs j d
    exact ⟨_, by rw [← Nat.add_assoc, usesR_succ, e, List.append_assoc]⟩
theorem usesN_pre (rs : List RD) (bs : List Nat) (i : Nat) : ∀ d, ∃ z, usesN rs bs (i + d) = usesN rs bs i ++ z
  | 0 => ⟨[], by rw [List.append_nil]; rfl⟩
  | d + 1 => by
    obtain ⟨z, e⟩ := usesN_pre rs bs i d
    exact ⟨_, by rw [← Nat.add_assoc, usesN_succ, e, List.append_assoc]⟩
theorem uses_first {rs : List RD} {bs : List Nat} {i j n : Nat} (h0 : usesN rs bs i = []) (h1 : usesR (rdAt rs i) i bs j = []) (hi : i < n) (hj : j < bs.length) (hu : usB (rdAt rs i) (bs.getD j 0) = true) : ∃ us, usesN rs bs n = (i, j) :: us := by
  obtain ⟨z, e⟩ := usesN_pre rs bs (i + 1) (n - (i + 1))
  obtain ⟨z', e'⟩ := usesR_pre (rdAt rs i) i bs (j + 1) (bs.length - (j + 1))
  rw [show i + 1 + (n - (i + 1)) = n by omega] at e
  rw [show j + 1 + (bs.length - (j + 1)) = bs.length by omega, usesR_succ, h1, if_pos hu] at e'
  rw [e, usesN_succ, h0, e']
  exact ⟨_, rfl⟩
/-! the parts drawn by k20's law -/
structure PartsI (m fx rest : Nat) (bs : List Nat) : Prop where
  sum : fx + rest + bs.sum = 2 ^ m - 1
  pos : ∀ b ∈ bs, 0 < b
  fr : fx &&& rest = 0
  dis : ∀ b ∈ bs, fx &&& b = 0
  rst : ∀ b ∈ bs, rest &&& b = 0
  pw : bs.Pairwise fun a b => a &&& b = 0
theorem pw_snoc {bs : List Nat} {c : Nat} (h : bs.Pairwise fun a b => a &&& b = 0) (hc : ∀ b ∈ bs, c &&& b = 0) : (bs ++ [c]).Pairwise fun a b => a &&& b = 0 := by
  rw [List.pairwise_append]
  exact ⟨h, List.pairwise_singleton _ _, fun a ha b hb => by rw [List.mem_singleton.mp hb]; exact dis_comm (hc a ha)⟩
theorem PartsI.take {m fx rest : Nat} {bs : List Nat} (P : PartsI m fx rest bs) (z : Nat) : PartsI m fx (rest - (rest &&& z)) (if 0 < rest &&& z then bs ++ [rest &&& z] else bs) := by
  have le : rest &&& z ≤ rest := Nat.and_le_left
  have sm := P.sum
  have fo := dis_sub P.fr (sub_out rest z)
  have fi := dis_sub P.fr (sub_in rest z)
  have ro : ∀ b ∈ bs, (rest - (rest &&& z)) &&& b = 0 := fun b hb => dis_sub' (P.rst b hb) (sub_out rest z)
  have ri : ∀ b ∈ bs, (rest &&& z) &&& b = 0 := fun b hb => dis_sub' (P.rst b hb) (sub_in rest z)
  by_cases h : 0 < rest &&& z
  · rw [if_pos h]
    refine ⟨?_, fun b hb => ?_, fo, fun b hb => ?_, fun b hb => ?_, pw_snoc P.pw ri⟩
    · rw [List.sum_append, List.sum_cons, List.sum_nil]; omega
    · rcases List.mem_append.mp hb with hb | hb
      · exact P.pos b hb
      · rw [List.mem_singleton.mp hb]; exact h
    · rcases List.mem_append.mp hb with hb | hb
      · exact P.dis b hb
      · rw [List.mem_singleton.mp hb]; exact fi
    · rcases List.mem_append.mp hb with hb | hb
      · exact ro b hb
      · rw [List.mem_singleton.mp hb]; exact dis_comm (dis_in_out rest z)
  · rw [if_neg h]
    exact ⟨by omega, P.pos, fo, P.dis, ro, P.pw⟩
theorem PartsI.all {m fx rest : Nat} {bs : List Nat} (P : PartsI m fx rest bs) (h : 0 < rest) : PartsI m fx 0 (bs ++ [rest]) := by
  have sm := P.sum
  refine ⟨?_, fun b hb => ?_, by simp, fun b hb => ?_, fun b hb => by simp, pw_snoc P.pw P.rst⟩
  · rw [List.sum_append, List.sum_cons, List.sum_nil]; omega
  · rcases List.mem_append.mp hb with hb | hb
    · exact P.pos b hb
    · rw [List.mem_singleton.mp hb]; exact h
  · rcases List.mem_append.mp hb with hb | hb
    · exact P.dis b hb
    · rw [List.mem_singleton.mp hb]; exact P.fr
theorem PartsI.good {m fx rest : Nat} {bs : List Nat} (P : PartsI m fx rest bs) : Good m (fx + rest) bs := by
  refine ⟨P.sum, P.pos, fun b hb => ?_, P.pw⟩
  rw [← or_add _ _ P.fr]
  refine dis_iff.mpr fun k hk => ?_
  rw [Nat.testBit_or, Bool.or_eq_true] at hk
  rcases hk with hk | hk
  · exact dis_iff.mp (P.dis b hb) k hk
  · exact dis_iff.mp (P.rst b hb) k hk
theorem PartsI.begin {m : Nat} (a c : Nat) : PartsI m (a &&& (2 ^ m - 1) &&& c) (2 ^ m - 1 - (a &&& (2 ^ m - 1) &&& c)) [] := by
  have le : a &&& (2 ^ m - 1) &&& c ≤ 2 ^ m - 1 := Nat.le_trans Nat.and_le_left Nat.and_le_right
  have p := Nat.two_pow_pos m
  generalize a &&& (2 ^ m - 1) &&& c = w at le
  refine ⟨by show w + (2 ^ m - 1 - w) + 0 = _; omega, fun b hb => absurd hb List.not_mem_nil, full_dis (by omega), fun b hb => absurd hb List.not_mem_nil, fun b hb => absurd hb List.not_mem_nil, List.Pairwise.nil⟩
/-! every column is fixed or in a block -/
def orL (bs : List Nat) : Nat := bs.foldr (· ||| ·) 0
theorem orL_dis {c : Nat} : ∀ {bs : List Nat}, (∀ b ∈ bs, c &&& b = 0) → c &&& orL bs = 0
  | [], _ => by simp [orL]
  | b :: bs, h => by
    show c &&& (b ||| orL bs) = 0
    have h1 := h b (List.mem_cons_self ..)
    have h2 := orL_dis (bs := bs) fun d hd => h d (List.mem_cons_of_mem _ hd)
    refine dis_iff.mpr fun k hk => ?_
    rw [Nat.testBit_or, dis_iff.mp h1 k hk, dis_iff.mp h2 k hk]; rfl
theorem orL_sum : ∀ {bs : List Nat}, (bs.Pairwise fun a b => a &&& b = 0) → orL bs = bs.sum
  | [], _ => rfl
  | b :: bs, h => by
    rw [List.pairwise_cons] at h
    show b ||| orL bs = _
    rw [or_add _ _ (orL_dis h.1), orL_sum h.2, List.sum_cons]
theorem tb_orL {k : Nat} : ∀ {bs : List Nat}, (orL bs).testBit k = true ↔ ∃ b ∈ bs, b.testBit k = true
  | [] => by simp [orL]
  | b :: bs => by
    show (b ||| orL bs).testBit k = true ↔ _
    rw [Nat.testBit_or, Bool.or_eq_true, tb_orL (bs := bs)]
    constructor
    · rintro (h | ⟨c, hc, h⟩)
      · exact ⟨b, List.mem_cons_self .., h⟩
      · exact ⟨c, List.mem_cons_of_mem _ hc, h⟩
    · rintro ⟨c, hc, h⟩
      rcases List.mem_cons.mp hc with rfl | hc
      · exact .inl h
      · exact .inr ⟨c, hc, h⟩
theorem Good.col {m fx : Nat} {bs : List Nat} (g : Good m fx bs) {k : Nat} : fx.testBit k = true ↔ k < m ∧ ∀ b ∈ bs, b.testBit k = false := by
  have e : fx ||| orL bs = 2 ^ m - 1 := by rw [or_add _ _ (orL_dis g.dis), orL_sum g.pw, g.sum]
  have t : (fx ||| orL bs).testBit k = decide (k < m) := by rw [e, Nat.testBit_two_pow_sub_one]
  rw [Nat.testBit_or] at t
  constructor
  · intro h
    rw [h, Bool.true_or] at t
    exact ⟨of_decide_eq_true t.symm, fun b hb => dis_iff.mp (g.dis b hb) k h⟩
  · rintro ⟨hk, h⟩
    rw [decide_eq_true hk, Bool.or_eq_true] at t
    rcases t with t | t
    · exact t
    · obtain ⟨b, hb, hbk⟩ := tb_orL.mp t
      rw [h b hb] at hbk; cases hbk
/-! a set whose book keeps the rules stays within one block -/
theorem usable_sub {st : Bool} {x y b d : Nat} (hu : usableB st x y b = true) (hd : usableB st x y d = false) (s : SubN d b) : y &&& d = 0 ∨ (st = false ∧ y &&& d = d) := by
  obtain ⟨h1, _, _⟩ := usable_in hu
  have h2 : x &&& d = 0 := dis_sub h1 s
  unfold usableB at hd
  rw [decide_eq_true h2, Bool.true_and] at hd
  by_cases h3 : y &&& d = 0
  · exact .inl h3
  · right
    rw [decide_eq_false h3, Bool.not_false, Bool.true_and, Bool.or_eq_false_iff] at hd
    refine ⟨hd.1, ?_⟩
    by_cases h4 : y &&& d = d
    · exact h4
    · rw [decide_eq_false h4] at hd; cases hd.2
theorem keep_in {st : Bool} {x y d i : Nat} {bs : List Nat} (hi : i < bs.length) (hu : usableB st x y (bs.getD i 0) = true) (hd : usableB st x y d = false) (d0 : d ≠ 0) (h : ∃ b ∈ bs, SubN d b) : ∃ b ∈ behindBs st y bs i, SubN d b := by
  obtain ⟨b, hb, hs⟩ := h
  have e := split_at hi
  unfold behindBs outN inN
  generalize bs.getD i 0 = c at e hu
  generalize bs.take i = p at e
  generalize bs.drop (i + 1) = q at e
  subst e
  rcases List.mem_append.mp hb with hb | hb
  · exact ⟨b, List.mem_append_left _ (List.mem_append_left _ hb), hs⟩
  rcases List.mem_cons.mp hb with rfl | hb
  · have so : y &&& d = 0 → SubN d (b - (b &&& y)) := fun z k hk => by
      rw [tb_out, hs k hk, dis_iff.mp (dis_comm z) k hk]; rfl
    have si : y &&& d = d → SubN d (b &&& y) := fun z k hk => by
      have : (y &&& d).testBit k = true := by rw [z]; exact hk
      rw [Nat.testBit_and, Bool.and_eq_true] at this
      rw [Nat.testBit_and, hs k hk, this.1]; rfl
    have ne : SubN d (b - (b &&& y)) → 0 < b - (b &&& y) := fun z => by
      apply Nat.pos_of_ne_zero
      intro e0
      apply d0
      refine Nat.eq_of_testBit_eq fun k => ?_
      rw [Nat.zero_testBit]
      cases hk : d.testBit k with
      | false => rfl
      | true => have := z k hk; rw [e0, Nat.zero_testBit] at this; cases this
    rcases usable_sub hu hd hs with z | ⟨rfl, z⟩
    · refine ⟨b - (b &&& y), List.mem_append_left _ (List.mem_append_right _ ?_), so z⟩
      cases st with
      | true => rw [if_pos rfl, if_pos (ne (so z))]; exact List.mem_singleton.mpr rfl
      | false => rw [if_neg Bool.false_ne_true]; exact List.mem_cons_of_mem _ (List.mem_singleton.mpr rfl)
    · exact ⟨b &&& y, List.mem_append_left _ (List.mem_append_right _ (List.mem_cons_self ..)), si z⟩
  · exact ⟨b, List.mem_append_right _ hb, hs⟩
theorem rd_mem {rs : List RD} {k : Nat} (h : k < rs.length) : rdAt rs k ∈ rs := by
  unfold rdAt
  rw [List.getD_eq_getElem?_getD, List.getElem?_eq_getElem h]
  exact List.getElem_mem h
/-- what a run comes to -/
theorem Run.good {rs : List RD} {s t : US} {m : Nat} (h : Run rs s t) : Good m s.fx s.bs → Good m t.fx t.bs ∧ usesN rs t.bs rs.length = [] := by
  induction h with
  | done h => exact fun g => ⟨g, h⟩
  | step e _ ih => exact fun g => ih (step_good g (by rw [e]; exact List.mem_cons_self ..)).1
theorem Run.keep {rs : List RD} {s t : US} {d : Nat} (h : Run rs s t) (d0 : d ≠ 0) (hd : ∀ r ∈ rs, usB r d = false) : (∃ b ∈ s.bs, SubN d b) → ∃ b ∈ t.bs, SubN d b := by
  induction h with
  | done h => exact id
  | step e _ ih =>
    intro z
    obtain ⟨h1, h2, h3⟩ := mem_usesN (rs := rs) (by rw [e]; exact List.mem_cons_self ..)
    exact ih (keep_in h2 h3 (hd _ (rd_mem h1)) d0 z)
theorem begin_sub {m x d : Nat} (hx : x < 2 ^ m) (hd : d < 2 ^ m) (d0 : d ≠ 0) (z : d &&& x = 0) : ∃ b ∈ beginBs m x, SubN d b := by
  have s : SubN d (2 ^ m - 1 - x) := fun k hk => by
    have e : 2 ^ m - 1 - x = 2 ^ m - (x + 1) := by omega
    rw [e, Nat.testBit_two_pow_sub_succ hx, dis_iff.mp z k hk]
    have : k < m := by
      apply Nat.lt_of_not_le
      intro le
      have : d.testBit k = false := Nat.testBit_lt_two_pow (Nat.lt_of_lt_of_le hd (Nat.pow_le_pow_right (by decide) le))
      rw [this] at hk; cases hk
    rw [decide_eq_true this]; rfl
  have lt : x < 2 ^ m - 1 := by
    apply Nat.lt_of_not_le
    intro le
    apply d0
    have e : 2 ^ m - 1 - x = 0 := by omega
    refine Nat.eq_of_testBit_eq fun k => ?_
    rw [Nat.zero_testBit]
    cases hk : d.testBit k with
    | false => rfl
    | true => have := s k hk; rw [e, Nat.zero_testBit] at this; cases this
  unfold beginBs
  rw [if_pos lt]
  exact ⟨_, List.mem_singleton.mpr rfl, s⟩
theorem behind_sub {st : Bool} {y i k : Nat} {bs : List Nat} (hi : i < bs.length) (h : ∃ b ∈ behindBs st y bs i, b.testBit k = true) : ∃ b ∈ bs, b.testBit k = true := by
  obtain ⟨b, hb, hk⟩ := h
  have e := split_at hi
  unfold behindBs outN inN at hb
  generalize bs.getD i 0 = c at e hb
  generalize bs.take i = p at e hb
  generalize bs.drop (i + 1) = q at e hb
  subst e
  rcases List.mem_append.mp hb with hb | hb
  · rcases List.mem_append.mp hb with hb | hb
    · exact ⟨b, List.mem_append_left _ hb, hk⟩
    · refine ⟨c, List.mem_append_right _ (List.mem_cons_self ..), ?_⟩
      cases st with
      | true =>
        rw [if_pos rfl] at hb
        split at hb
        · rw [List.mem_singleton.mp hb] at hk; exact sub_out c y k hk
        · exact absurd hb List.not_mem_nil
      | false =>
        rw [if_neg Bool.false_ne_true] at hb
        rcases List.mem_cons.mp hb with rfl | hb
        · exact sub_in c y k hk
        · rw [List.mem_singleton.mp hb] at hk; exact sub_out c y k hk
  · exact ⟨b, List.mem_append_right _ (List.mem_cons_of_mem _ hb), hk⟩
/-- no block at the end has a column that no block had -/
theorem Run.sub {rs : List RD} {s t : US} {k : Nat} (h : Run rs s t) : (∃ b ∈ t.bs, b.testBit k = true) → ∃ b ∈ s.bs, b.testBit k = true := by
  induction h with
  | done h => exact id
  | step e _ ih =>
    intro z
    obtain ⟨_, h2, _⟩ := mem_usesN (rs := rs) (by rw [e]; exact List.mem_cons_self ..)
    exact behind_sub h2 (ih z)
end L2

namespace L2
open PySem PySem.Spec PyProof.Rows
/-! ### what is not in a set, min, an object of one's own written -/
theorem Same.own {H H' : Hp} {p : Addr} {o : HO} (e : Same H H') (h : H p = Option.none) : Same H (upd H' p o) := fun c u z => by
  rw [upd_ne (ne_of_none z h)]
  exact e c u z
theorem and_not (b y : Nat) : Builtin.bitAnd (b : Int) (Builtin.bitNot (y : Int)) = ((b - (b &&& y) : Nat) : Int) := by
  have hy : ¬ 0 ≤ Builtin.bitNot (y : Int) := by unfold Builtin.bitNot; omega
  have hb : 0 ≤ (b : Int) := by omega
  have le := Nat.and_le_left (n := b) (m := y)
  simp only [Builtin.bitAnd, hy, hb, decide_false, decide_true, bitNot_not, Int.toNat_natCast]
  omega
section
variable {X : Cx} {K : PySem.W.Frag}
theorem op_andInv : OpR X (binaryOp .BitAnd) (fun x y H Q => ∃ a b : Nat, x = vN a ∧ y = .int (Builtin.bitNot (b : Int)) ∧ Q (vN (a - (a &&& b))) H) := op_and.mono fun x y H Q ⟨a, b, h1, h2, q⟩ => ⟨a, _, h1, h2, by
  show Q (V.int (Builtin.bitAnd (a : Int) (Builtin.bitNot (b : Int)))) H
  rw [and_not]; exact q⟩
end
/-! ### what the unfolding's defs promise -/
def spListed : Sp := fun vs H Q _ => ∃ b : Nat, vs = [vN b] ∧ ∀ p, H p = none → Q (.ref p) (upd H p (.lst ((if 0 < b then [b] else []).map vN)))
def spUsed (K : PySem.W.Frag) : Sp := fun vs H Q _ => ∃ (r l : Addr) (st : Bool) (x y fx at_ : Nat) (bs : List Nat), vs = [.ref r, vN fx, .ref l, vN at_] ∧ RuleAt H r st x y ∧ SqL K H l (bs.map vN) ∧ at_ < bs.length ∧ bs.length ≤ 200 ∧ fx &&& bs.getD at_ 0 = 0 ∧
  ∀ (t p : Addr) (H' : Hp), Same H H' → H t = none → H' t = some (.tup [vN (behindFx st y fx bs at_), .ref p]) → H p = none → H' p = some (.lst ((behindBs st y bs at_).map vN)) → Q (.ref t) H'
def spBegun (K : PySem.W.Frag) : Sp := fun vs H Q _ => ∃ m x : Nat, vs = [vN m, vN x] ∧ m ≤ 7 ∧ x < 2 ^ m ∧
  ∀ (t p : Addr) (H' : Hp), Same H H' → H t = none → H' t = some (.tup [vN x, .ref p]) → H p = none → H' p = some (.lst ((beginBs m x).map vN)) → Q (.ref t) H'
def Rl.d (r : Rl) : RD := (r.st, r.x, r.y)
theorem rd_at {rs : List Rl} {k : Nat} {r : Rl} (h : rs[k]? = some r) : rdAt (rs.map Rl.d) k = r.d := by
  unfold rdAt
  rw [List.getD_eq_getElem?_getD, List.getElem?_map, h]; rfl
def RulesAt (H : Hp) (m : Nat) (rs : List Rl) : Prop := ∀ r ∈ rs, RuleAt H r.r r.st r.x r.y ∧ r.x < 2 ^ m ∧ r.y < 2 ^ m
theorem RulesAt.same {H H' : Hp} {m : Nat} {rs : List Rl} (h : RulesAt H m rs) (e : Same H H') : RulesAt H' m rs := fun r hr => ⟨e _ _ (h r hr).1, (h r hr).2⟩
def spFirstUse (K : PySem.W.Frag) : Sp := fun vs H Q _ => ∃ (rl bl : Addr) (rs : List Rl) (bs : List Nat) (m : Nat), vs = [.ref rl, .ref bl] ∧ SqL K H rl (rs.map fun r => V.ref r.r) ∧ RulesAt H m rs ∧ SqL K H bl (bs.map vN) ∧ rs.length ≤ 200 ∧ bs.length ≤ 200 ∧
  (∀ H', Same H H' → usesN (rs.map Rl.d) bs rs.length = [] → Q .non H') ∧
  ∀ (u : Nat × Nat) (us : List (Nat × Nat)) (t : Addr) (H' : Hp), Same H H' → usesN (rs.map Rl.d) bs rs.length = u :: us → H t = none → H' t = some (.tup [vN u.1, vN u.2]) → Q (.ref t) H'
/-- tuples of two numbers in the heap -/
abbrev SW := Addr × (Nat × Nat)
def StepsAt (H : Hp) (sw : List SW) : Prop := ∀ w ∈ sw, H w.1 = some (.tup [vN w.2.1, vN w.2.2])
theorem StepsAt.same {H H' : Hp} {sw : List SW} (h : StepsAt H sw) (e : Same H H') : StepsAt H' sw := fun w hw => e _ _ (h w hw)
theorem StepsAt.put {H : Hp} {sw : List SW} {q : Addr} {xs ys : List V} (h : StepsAt H sw) (hq : H q = some (.lst xs)) : StepsAt (upd H q (.lst ys)) sw := fun w hw => by
  rw [upd_ne (ne_of (h w hw) hq (by intro z; cases z))]
  exact h w hw
theorem StepsAt.snoc {H : Hp} {sw : List SW} {w : SW} (h : StepsAt H sw) (hw : H w.1 = some (.tup [vN w.2.1, vN w.2.2])) : StepsAt H (sw ++ [w]) := fun v hv => by
  rcases List.mem_append.mp hv with hv | hv
  · exact h v hv
  · rw [List.mem_singleton.mp hv]; exact hw
theorem StepsAt.append {H : Hp} {sw sv : List SW} (h : StepsAt H sw) (h' : StepsAt H sv) : StepsAt H (sw ++ sv) := fun v hv => by
  rcases List.mem_append.mp hv with hv | hv
  · exact h v hv
  · exact h' v hv
theorem rd_len (rs : List Rl) : (rs.map Rl.d).length = rs.length := List.length_map ..
def spUnfolded (K : PySem.W.Frag) : Sp := fun vs H Q _ => ∃ (m x : Nat) (rl : Addr) (rs : List Rl), vs = [vN m, .ref rl, vN x] ∧ m ≤ 7 ∧ x < 2 ^ m ∧ SqL K H rl (rs.map fun r => V.ref r.r) ∧ RulesAt H m rs ∧ rs.length ≤ 200 ∧
  ∀ (t p q : Addr) (s : US) (sw : List SW) (H' : Hp), Run (rs.map Rl.d) ⟨x, beginBs m x, []⟩ s → Same H H' → H t = none → H' t = some (.tup [vN s.fx, .ref p, .ref q]) → H p = none → H' p = some (.lst (s.bs.map vN)) → H q = none → H' q = some (.lst (sw.map fun w => V.ref w.1)) → StepsAt H' sw → sw.map (·.2) = s.st → sw.length ≤ 300 → p ≠ q → Q (.ref t) H'
/-! data -/
theorem same_list {α : Type} [DecidableEq α] {f : α → PyData} (h : ∀ a b, same (f a) (f b) = decide (a = b)) (xs ys : List α) : same (.list (xs.map f)) (.list (ys.map f)) = decide (xs = ys) := by
  simp only [same]
  exact sameAll_map h xs ys
theorem noMix_list {α : Type} {f : α → PyData} (h : ∀ a b, SeqAt.noMix (f a) (f b) = true) (xs ys : List α) : SeqAt.noMix (.list (xs.map f)) (.list (ys.map f)) = true := by
  simp only [SeqAt.noMix]
  exact noMixAll_map h xs ys
theorem same_dR (a b : RD) : same (dR a) (dR b) = decide (a = b) := by
  unfold dR
  obtain ⟨a1, a2, a3⟩ := a
  obtain ⟨b1, b2, b3⟩ := b
  have hw : (wordS a1 = wordS b1) ↔ a1 = b1 := by
    constructor
    · intro h
      cases a1 <;> cases b1 <;> first | rfl | (exact absurd h (by decide))
    · rintro rfl; rfl
  by_cases h1 : a1 = b1 <;> by_cases h2 : a2 = b2 <;> by_cases h3 : a3 = b3 <;> simp [same, sameAll, hw, h1, h2, h3, Int.ofNat_inj]
theorem rules_dv {K : PySem.W.Frag} {H : Hp} {m : Nat} : ∀ {rs : List Rl}, RulesAt H m rs → DVs K H (rs.map fun r => V.ref r.r) ((rs.map Rl.d).map dR)
  | [], _ => .nil
  | r :: rs, h => .cons (.tup (SqT.of (h r (List.mem_cons_self ..)).1) (.cons (.str _) (.cons (.int _) (.cons (.int _) .nil)))) (rules_dv fun v hv => h v (List.mem_cons_of_mem _ hv))
end L2

namespace L2
open PySem PySem.Spec PyProof.Rows
/-! ### an unfolding under way, in the heap -/
structure UCore (H : Hp) (m x : Nat) (rs : List Rl) (s : US) (p qa : Addr) (sw : List SW) (H' : Hp) : Prop where
  same : Same H H'
  hp0 : H p = none
  hp : H' p = some (.lst (s.bs.map vN))
  npq : p ≠ qa
  hq0 : H qa = none
  hq : H' qa = some (.lst (sw.map fun w => V.ref w.1))
  st : StepsAt H' sw
  est : sw.map (·.2) = s.st
  good : Good m s.fx s.bs
  run : ∀ z, Run (rs.map Rl.d) s z → Run (rs.map Rl.d) ⟨x, beginBs m x, []⟩ z
  len : s.st.length + muS s.bs ≤ 254
theorem UCore.mono {H : Hp} {m x : Nat} {rs : List Rl} {s : US} {p qa : Addr} {sw : List SW} {H' H'' : Hp} (c : UCore H m x rs s p qa sw H') (e : Same H' H'') : UCore H m x rs s p qa sw H'' :=
  ⟨c.same.trans e, c.hp0, e _ _ c.hp, c.npq, c.hq0, e _ _ c.hq, c.st.same e, c.est, c.good, c.run, c.len⟩
theorem UCore.begin {H H' : Hp} {m x : Nat} {rs : List Rl} {p qa : Addr} (m7 : m ≤ 7) (hx : x < 2 ^ m) (e : Same H H') (hp0 : H p = none) (hp : H' p = some (.lst ((beginBs m x).map vN))) (hq : H' qa = none) : UCore H m x rs ⟨x, beginBs m x, []⟩ p qa [] (upd H' qa (.lst [])) := by
  have g := Good.begin hx
  refine ⟨e.trans (Same.new hq), hp0, Same.new hq _ _ hp, ne_of_none hp hq, e.none hq, upd_same, fun w h => absurd h List.not_mem_nil, rfl, g, fun z h => h, ?_⟩
  have e := g.sum
  have p7 := pow7 m7
  show 0 + muS (beginBs m x) ≤ 254
  unfold muS
  omega
theorem UCore.slen {H : Hp} {m x : Nat} {rs : List Rl} {s : US} {p qa : Addr} {sw : List SW} {H' : Hp} (c : UCore H m x rs s p qa sw H') : sw.length ≤ 254 := by
  have := c.len
  have e := congrArg List.length c.est
  rw [List.length_map] at e
  omega
theorem UCore.next {H : Hp} {m x : Nat} {rs : List Rl} {s : US} {p p' qa : Addr} {sw : List SW} {w : SW} {H1 H3 : Hp} {u : Nat × Nat} {us : List (Nat × Nat)} (c : UCore H m x rs s p qa sw H1) (hu : usesN (rs.map Rl.d) s.bs rs.length = u :: us) (ew : w.2 = (u.1, s.bs.getD u.2 0)) (hw : H1 w.1 = some (.tup [vN w.2.1, vN w.2.2]))
    (s3 : Same (upd H1 qa (.lst ((sw.map fun w => V.ref w.1) ++ [V.ref w.1]))) H3) (hp' : (upd H1 qa (.lst ((sw.map fun w => V.ref w.1) ++ [V.ref w.1]))) p' = none) (hp3 : H3 p' = some (.lst ((stepS (rs.map Rl.d) s u).bs.map vN))) :
    UCore H m x rs (stepS (rs.map Rl.d) s u) p' qa (sw ++ [w]) H3 ∧ muS (stepS (rs.map Rl.d) s u).bs < muS s.bs := by
  rw [← rd_len] at hu
  obtain ⟨g, mu⟩ := step_good (m := m) (rs := rs.map Rl.d) (s := s) (u := u) c.good (by rw [hu]; exact List.mem_cons_self ..)
  have sH : Same H (upd H1 qa (.lst ((sw.map fun w => V.ref w.1) ++ [V.ref w.1]))) := c.same.own c.hq0
  refine ⟨⟨sH.trans s3, sH.none hp', hp3, Ne.symm (ne_of_none upd_same hp'), c.hq0, ?_, ?_, ?_, g, fun z h => c.run z (Run.step hu h), ?_⟩, mu⟩
  · rw [s3 _ _ upd_same, List.map_append]; rfl
  · refine ((c.st.put c.hq).snoc ?_).same s3
    rw [upd_ne (ne_of hw c.hq (by intro z; cases z))]
    exact hw
  · rw [List.map_append, c.est]
    show s.st ++ [w.2] = s.st ++ [(u.1, s.bs.getD u.2 0)]
    rw [ew]
  · rw [step_st]
    have := c.len
    omega
def UInv (H : Hp) (m x : Nat) (rl : Addr) (rs : List Rl) (n : Nat) (σ : St) (H' : Hp) : Prop :=
  ∃ (s : US) (t p qa : Addr) (sw : List SW) (v : V), σ = [some (vN m), some (.ref rl), some (vN x), some (.ref t), some (.ref qa), some v] ∧ n = muS s.bs ∧ H' t = some (.tup [vN s.fx, .ref p]) ∧ UCore H m x rs s p qa sw H' ∧
    ((usesN (rs.map Rl.d) s.bs rs.length = [] ∧ v = .non) ∨ ∃ u us t5, usesN (rs.map Rl.d) s.bs rs.length = u :: us ∧ v = .ref t5 ∧ H' t5 = some (.tup [vN u.1, vN u.2]))
/-- what a use of the law's list gives -/
theorem uses_at {rs : List Rl} {bs : List Nat} {u : Nat × Nat} {m : Nat} {H : Hp} (hu : u ∈ usesN (rs.map Rl.d) bs rs.length) (hR : RulesAt H m rs) : ∃ r : Rl, rs[u.1]? = some r ∧ rdAt (rs.map Rl.d) u.1 = r.d ∧ u.2 < bs.length ∧ bs[u.2]? = some (bs.getD u.2 0) ∧ (RuleAt H r.r r.st r.x r.y ∧ r.x < 2 ^ m ∧ r.y < 2 ^ m) := by
  obtain ⟨h1, h2, _⟩ := mem_usesN hu
  have e : rs[u.1]? = some rs[u.1] := List.getElem?_eq_getElem h1
  exact ⟨rs[u.1], e, rd_at e, h2, by rw [List.getD_eq_getElem?_getD, List.getElem?_eq_getElem h2]; rfl, hR _ (List.getElem_mem h1)⟩
end L2

namespace L2
open PySem PySem.Spec PyProof.Rows
/-! ### what follows -/
/-- the blocks of an unfolding have no column of the set -/
theorem Run.apart {rs : List RD} {m x : Nat} {s : US} (hx : x < 2 ^ m) (h : Run rs ⟨x, beginBs m x, []⟩ s) {b : Nat} (hb : b ∈ s.bs) : x &&& b = 0 := by
  refine dis_iff.mpr fun k hk => ?_
  cases hbk : b.testBit k with
  | false => rfl
  | true =>
    obtain ⟨c, hc, hck⟩ := h.sub ⟨b, hb, hbk⟩
    have := (Good.begin hx).dis c hc
    rw [dis_iff.mp this k hk] at hck
    cases hck
section
variable {X : Cx} {K : PySem.W.Frag}
end
end L2

namespace L2
/-! ### the settled columns, found by books of two rows -/
open PySem PySem.Spec PyProof.Rows
end L2

namespace L2
/-! ### what follows, told by the sets whose books keep the rules -/
theorem Run.apart0 {rs : List RD} {m x : Nat} {s : US} (hx : x < 2 ^ m) (h : Run rs ⟨x, beginBs m x, []⟩ s) {b : Nat} (hb : b ∈ s.bs) : x &&& b = 0 := by
  refine dis_iff.mpr fun k hk => ?_
  cases hbk : b.testBit k with
  | false => rfl
  | true =>
    obtain ⟨c, hc, hck⟩ := h.sub ⟨b, hb, hbk⟩
    have := (Good.begin hx).dis c hc
    rw [dis_iff.mp this k hk] at hck
    cases hck
def KeptS (m : Nat) (rs : List RD) (d : Nat) : Prop := 1 ≤ d ∧ d < 2 ^ m ∧ ∀ r ∈ rs, usB r d = false
def FolP (m : Nat) (rs : List RD) (st : Bool) (x y : Nat) : Prop := ∀ d, KeptS m rs d → usB (st, x, y) d = false
def HasB (a k : Nat) : Prop := a.testBit k = true
theorem bit_of_ne {a : Nat} (h : a ≠ 0) : ∃ k, HasB a k := by
  by_cases z : ∃ k, HasB a k
  · exact z
  · exfalso
    apply h
    refine Nat.eq_of_testBit_eq fun k => ?_
    rw [Nat.zero_testBit]
    cases e : a.testBit k with
    | false => rfl
    | true => exact absurd ⟨k, e⟩ z
theorem hasb_and (a b k : Nat) : HasB (a &&& b) k ↔ HasB a k ∧ HasB b k := by unfold HasB; rw [Nat.testBit_and, Bool.and_eq_true]
theorem hasb_or (a b k : Nat) : HasB (a ||| b) k ↔ HasB a k ∨ HasB b k := by unfold HasB; rw [Nat.testBit_or, Bool.or_eq_true]
theorem hasb_out (b y k : Nat) : HasB (b - (b &&& y)) k ↔ HasB b k ∧ ¬ HasB y k := by
  unfold HasB
  rw [tb_out, Bool.and_eq_true]
  cases y.testBit k <;> simp
theorem hasb_full {m x : Nat} (hx : x < 2 ^ m) (k : Nat) : HasB (2 ^ m - 1 - x) k ↔ k < m ∧ ¬ HasB x k := by
  unfold HasB
  rw [show 2 ^ m - 1 - x = 2 ^ m - (x + 1) by omega, Nat.testBit_two_pow_sub_succ hx, Bool.and_eq_true, decide_eq_true_iff]
  cases x.testBit k <;> simp
theorem hasb_lt {m a k : Nat} (ha : a < 2 ^ m) (h : HasB a k) : k < m := by
  apply Nat.lt_of_not_le
  intro le
  have : a.testBit k = false := Nat.testBit_lt_two_pow (Nat.lt_of_lt_of_le ha (Nat.pow_le_pow_right (by decide) le))
  unfold HasB at h
  rw [this] at h; cases h
theorem and_ne {a b : Nat} : a &&& b ≠ 0 ↔ ∃ k, HasB a k ∧ HasB b k := by
  constructor
  · intro h
    obtain ⟨k, hk⟩ := bit_of_ne h
    exact ⟨k, (hasb_and a b k).mp hk⟩
  · rintro ⟨k, h1, h2⟩ e
    have := (hasb_and a b k).mpr ⟨h1, h2⟩
    unfold HasB at this
    rw [e, Nat.zero_testBit] at this
    cases this
theorem Run.kept {rs : List RD} {m x : Nat} {s : US} (hx : x < 2 ^ m) (R : Run rs ⟨x, beginBs m x, []⟩ s) {b : Nat} (hb : b ∈ s.bs) : KeptS m rs b := by
  obtain ⟨g, un⟩ := R.good (m := m) (Good.begin hx)
  exact ⟨g.pos b hb, g.lt hb, fun r hr => uses_nil un hr hb⟩
theorem Run.holds {rs : List RD} {m x d : Nat} {s : US} (hx : x < 2 ^ m) (R : Run rs ⟨x, beginBs m x, []⟩ s) (hd : KeptS m rs d) (ha : ∀ k, HasB d k → ¬ HasB x k) : ∃ b ∈ s.bs, SubN d b := by
  have h0 := hd.1
  refine R.keep (by omega) hd.2.2 (begin_sub hx hd.2.1 (by omega) ?_)
  by_cases z : d &&& x = 0
  · exact z
  · obtain ⟨k, a, b⟩ := and_ne.mp z
    exact absurd b (ha k a)
end L2
namespace L2
/-! ### the rules of following -/
section
variable {m : Nat} {rs : List RD} {x y z v : Nat}
end
open PySem PySem.Spec PyProof.Rows
theorem RulesAt.put {H : Hp} {m : Nat} {rs : List Rl} {q : Addr} {xs ys : List V} (h : RulesAt H m rs) (hq : H q = some (.lst xs)) : RulesAt (upd H q (.lst ys)) m rs := fun r hr => by
  refine ⟨?_, (h r hr).2⟩
  have h1 := (h r hr).1
  unfold RuleAt at h1 ⊢
  rw [upd_ne (ne_of h1 hq (by intro z; cases z))]
  exact h1
end L2

namespace L2
/-! ### which sets are blocks; more rules -/
def Apart (x d : Nat) : Prop := ∀ k, HasB d k → ¬ HasB x k
theorem apart_of {x b : Nat} (h : x &&& b = 0) : Apart x b := fun k h1 h2 => by
  have := dis_iff.mp h k h2
  unfold HasB at h1
  rw [this] at h1; cases h1
theorem sub_eq {a b : Nat} (h1 : SubN a b) (h2 : SubN b a) : a = b := Nat.eq_of_testBit_eq fun k => by
  rw [Bool.eq_iff_iff]
  exact ⟨h1 k, h2 k⟩
theorem pw_ne : ∀ {bs : List Nat}, (bs.Pairwise fun a b => a &&& b = 0) → ∀ {a b}, a ∈ bs → b ∈ bs → a ≠ b → a &&& b = 0
  | c :: bs, h, a, b, ha, hb, hn => by
    rw [List.pairwise_cons] at h
    rcases List.mem_cons.mp ha with rfl | ha'
    · rcases List.mem_cons.mp hb with rfl | hb'
      · exact absurd rfl hn
      · exact h.1 b hb'
    · rcases List.mem_cons.mp hb with rfl | hb'
      · exact dis_comm (h.1 a ha')
      · exact pw_ne h.2 ha' hb' hn
theorem Good.nodup {m fx : Nat} {bs : List Nat} (g : Good m fx bs) : bs.Nodup := by
  refine g.pw.imp_of_mem fun {a b} ha hb h e => ?_
  subst e
  rw [Nat.and_self] at h
  have := g.pos a ha
  omega
structure Blocks (m : Nat) (rs : List RD) (x fx : Nat) (bs : List Nat) : Prop where
  good : Good m fx bs
  kept : ∀ b ∈ bs, KeptS m rs b
  apart : ∀ b ∈ bs, Apart x b
  holds : ∀ d, KeptS m rs d → Apart x d → ∃ b ∈ bs, SubN d b
theorem Run.blocks {rs : List RD} {m x : Nat} {s : US} (hx : x < 2 ^ m) (R : Run rs ⟨x, beginBs m x, []⟩ s) : Blocks m rs x s.fx s.bs :=
  ⟨(R.good (m := m) (Good.begin hx)).1, fun b hb => R.kept hx hb, fun b hb => apart_of (R.apart0 hx hb), fun d hd ha => R.holds hx hd ha⟩
theorem Blocks.one {m x fx : Nat} {rs : List RD} {bs : List Nat} (B : Blocks m rs x fx bs) {b c : Nat} (hb : b ∈ bs) (hc : c ∈ bs) (h : SubN b c) : b = c := by
  by_cases e : b = c
  · exact e
  · exfalso
    have := pw_ne B.good.pw hb hc e
    obtain ⟨k, hk⟩ := bit_of_ne (a := b) (by have := B.good.pos b hb; omega)
    have h2 := dis_iff.mp this k hk
    rw [h k hk] at h2; cases h2
theorem Blocks.mem {m x fx : Nat} {rs : List RD} {bs : List Nat} (B : Blocks m rs x fx bs) {b : Nat} : b ∈ bs ↔ KeptS m rs b ∧ Apart x b ∧ ∀ d, KeptS m rs d → Apart x d → SubN b d → SubN d b := by
  constructor
  · intro hb
    refine ⟨B.kept b hb, B.apart b hb, fun d hd ha hs => ?_⟩
    obtain ⟨c, hc, hs2⟩ := B.holds d hd ha
    have e := B.one hb hc fun k hk => hs2 k (hs k hk)
    rw [e]; exact hs2
  · rintro ⟨hk, ha, hm⟩
    obtain ⟨c, hc, hs⟩ := B.holds b hk ha
    have := hm c (B.kept c hc) (B.apart c hc) hs
    rw [sub_eq hs this]; exact hc
theorem Blocks.fix {m x fx : Nat} {rs : List RD} {bs : List Nat} (B : Blocks m rs x fx bs) {k : Nat} : HasB fx k ↔ k < m ∧ ∀ d, KeptS m rs d → Apart x d → ¬ HasB d k := by
  unfold HasB
  rw [B.good.col]
  constructor
  · rintro ⟨h1, h2⟩
    refine ⟨h1, fun d hd ha hk => ?_⟩
    obtain ⟨b, hb, hs⟩ := B.holds d hd ha
    have := hs k hk
    rw [h2 b hb] at this; cases this
  · rintro ⟨h1, h2⟩
    refine ⟨h1, fun b hb => ?_⟩
    cases e : b.testBit k with
    | false => rfl
    | true => exact absurd e (h2 b (B.kept b hb) (B.apart b hb))
theorem Blocks.same {m x fx fx' : Nat} {rs rs' : List RD} {bs bs' : List Nat} (B : Blocks m rs x fx bs) (B' : Blocks m rs' x fx' bs') (h : ∀ d, KeptS m rs d ↔ KeptS m rs' d) : fx = fx' ∧ bs.Perm bs' := by
  constructor
  · refine Nat.eq_of_testBit_eq fun k => ?_
    rw [Bool.eq_iff_iff]
    show HasB fx k ↔ HasB fx' k
    rw [B.fix, B'.fix]
    exact ⟨fun ⟨a, b⟩ => ⟨a, fun d hd => b d ((h d).mpr hd)⟩, fun ⟨a, b⟩ => ⟨a, fun d hd => b d ((h d).mp hd)⟩⟩
  · rw [List.perm_ext_iff_of_nodup B.good.nodup B'.good.nodup]
    intro b
    rw [B.mem, B'.mem, h b]
    exact ⟨fun ⟨a, c, e⟩ => ⟨a, c, fun d hd => e d ((h d).mpr hd)⟩, fun ⟨a, c, e⟩ => ⟨a, c, fun d hd => e d ((h d).mp hd)⟩⟩
theorem Blocks.more {m x fx fx' : Nat} {rs rs' : List RD} {bs bs' : List Nat} (B : Blocks m rs x fx bs) (B' : Blocks m rs' x fx' bs') (h : ∀ d, KeptS m rs' d → KeptS m rs d) : fx &&& fx' = fx := by
  refine Nat.eq_of_testBit_eq fun k => ?_
  rw [Bool.eq_iff_iff]
  show HasB (fx &&& fx') k ↔ HasB fx k
  rw [hasb_and]
  refine ⟨fun z => z.1, fun z => ⟨z, ?_⟩⟩
  obtain ⟨a, b⟩ := B.fix.mp z
  exact B'.fix.mpr ⟨a, fun d hd => b d (h d hd)⟩
end L2
namespace L2
theorem few_with {k : Nat} {bs : List Nat} (h : bs.Pairwise fun a b => a &&& b = 0) : (bs.filter fun b => b.testBit k).length ≤ 1 := by
  have hp : (bs.filter fun b => b.testBit k).Pairwise fun a b => a &&& b = 0 := h.sublist List.filter_sublist
  have hm : ∀ b ∈ bs.filter fun b => b.testBit k, b.testBit k = true := fun b hb => (List.mem_filter.mp hb).2
  generalize bs.filter (fun b => b.testBit k) = l at hp hm
  match l, hp, hm with
  | [], _, _ => exact Nat.zero_le _
  | [_], _, _ => exact Nat.le_refl _
  | a :: b :: l, hp, hm =>
    exfalso
    rw [List.pairwise_cons] at hp
    have := dis_iff.mp (hp.1 b (List.mem_cons_self ..)) k (hm a (List.mem_cons_self ..))
    rw [hm b (List.mem_cons_of_mem _ (List.mem_cons_self ..))] at this
    cases this
theorem few_blocks : ∀ (m : Nat) {bs : List Nat}, (bs.Pairwise fun a b => a &&& b = 0) → (∀ b ∈ bs, 0 < b) → (∀ b ∈ bs, b < 2 ^ m) → bs.length ≤ m
  | 0, bs, _, h0, h1 => by
    cases bs with
    | nil => exact Nat.le_refl _
    | cons a l =>
      have := h0 a (List.mem_cons_self ..)
      have := h1 a (List.mem_cons_self ..)
      omega
  | m + 1, bs, hp, h0, h1 => by
    have f := few_with (k := m) hp
    have g := few_blocks m (bs := bs.filter fun b => !b.testBit m) (hp.sublist List.filter_sublist) (fun b hb => h0 b (List.mem_filter.mp hb).1) (fun b hb => by
      obtain ⟨h2, h3⟩ := List.mem_filter.mp hb
      have h4 := h1 b h2
      apply Nat.lt_of_not_le
      intro le
      have : b.testBit m = true := by
        rw [Nat.testBit_eq_decide_div_mod_eq]
        have : b / 2 ^ m = 1 := by
          have p := Nat.two_pow_pos m
          rw [Nat.pow_succ] at h4
          exact Nat.div_eq_of_lt_le (by omega) (by omega)
        rw [this]; rfl
      rw [this] at h3; cases h3)
    have e : bs.length = (bs.filter fun b => b.testBit m).length + (bs.filter fun b => !b.testBit m).length := by
      have := List.length_eq_countP_add_countP (fun b : Nat => b.testBit m) (l := bs)
      rw [List.countP_eq_length_filter, List.countP_eq_length_filter] at this
      rw [this]
      congr 2
      refine List.filter_congr fun b _ => ?_
      cases b.testBit m <;> rfl
    omega
theorem Good.few {m fx : Nat} {bs : List Nat} (g : Good m fx bs) : bs.length ≤ m := few_blocks m g.pw g.pos fun b hb => g.lt hb
open PySem PySem.Spec PyProof.Rows
structure R35 (H' : Hp) (m : Nat) (rl ll : Addr) (rs : List Rl) (i : Nat) (e : Rl) (sb : Bool) : Prop where
  m1 : 1 ≤ m
  m7 : m ≤ 7
  hrl : H' rl = some (.lst (rs.map fun r => V.ref r.r))
  hRs : RulesAt H' m rs
  lr : rs.length ≤ 60
  hll : H' ll = some (.lst ((rs.take i ++ [e] ++ rs.drop i).map fun r => V.ref r.r))
  he : RuleAt H' e.r e.st e.x e.y ∧ e.x < 2 ^ m ∧ e.y < 2 ^ m
  sb : sb = true ↔ FolP m (rs.map Rl.d) e.st e.x e.y
theorem R35.same {H H' : Hp} {m i : Nat} {rl ll : Addr} {rs : List Rl} {e : Rl} {sb : Bool} (R : R35 H m rl ll rs i e sb) (s : Same H H') : R35 H' m rl ll rs i e sb :=
  ⟨R.m1, R.m7, s _ _ R.hrl, R.hRs.same s, R.lr, s _ _ R.hll, ⟨s _ _ R.he.1, R.he.2⟩, R.sb⟩
theorem R35.hRs2 {H : Hp} {m i : Nat} {rl ll : Addr} {rs : List Rl} {e : Rl} {sb : Bool} (R : R35 H m rl ll rs i e sb) : RulesAt H m (rs.take i ++ [e] ++ rs.drop i) := fun r hr => by
  rcases List.mem_append.mp hr with hr | hr
  · rcases List.mem_append.mp hr with hr | hr
    · exact R.hRs r (List.mem_of_mem_take hr)
    · rw [List.mem_singleton.mp hr]; exact R.he
  · exact R.hRs r (List.mem_of_mem_drop hr)
end L2

namespace L2
/-! ### any steps lead to the same blocks -/
structure DStep (m : Nat) (rs : List RD) (x fx : Nat) (bs : List Nat) : Prop where
  good : Good m fx bs
  apart : ∀ b ∈ bs, Apart x b
  holds : ∀ d, KeptS m rs d → Apart x d → ∃ b ∈ bs, SubN d b
theorem DStep.begin {m x : Nat} {rs : List RD} (hx : x < 2 ^ m) : DStep m rs x x (beginBs m x) := by
  refine ⟨Good.begin hx, fun b hb => apart_of ((Good.begin hx).dis b hb), fun d hd ha => ?_⟩
  have h1 := hd.1
  refine begin_sub hx hd.2.1 (by omega) ?_
  by_cases z : d &&& x = 0
  · exact z
  · obtain ⟨k, a, b⟩ := and_ne.mp z
    exact absurd b (ha k a)
theorem DStep.use {m x fx : Nat} {rs : List RD} {bs : List Nat} (D : DStep m rs x fx bs) {u : Nat × Nat} (hu : u ∈ usesN rs bs rs.length) : DStep m rs x (behindFx (rdAt rs u.1).1 (rdAt rs u.1).2.2 fx bs u.2) (behindBs (rdAt rs u.1).1 (rdAt rs u.1).2.2 bs u.2) := by
  obtain ⟨h1, h2, h3⟩ := mem_usesN hu
  refine ⟨(D.good.use h2 h3).1, fun b hb k hk hx => ?_, fun d hd ha => ?_⟩
  · obtain ⟨c, hc, hck⟩ := behind_sub h2 ⟨b, hb, hk⟩
    exact D.apart c hc k hck hx
  · have h0 := hd.1
    exact keep_in h2 h3 (hd.2.2 _ (rd_mem h1)) (by omega) (D.holds d hd ha)
theorem DStep.done {m x fx : Nat} {rs : List RD} {bs : List Nat} (D : DStep m rs x fx bs) (un : usesN rs bs rs.length = []) : Blocks m rs x fx bs :=
  ⟨D.good, fun b hb => ⟨D.good.pos b hb, D.good.lt hb, fun r hr => uses_nil un hr hb⟩, D.apart, D.holds⟩
theorem Blocks.own {m x fx : Nat} {rs : List RD} {bs : List Nat} (hx : x < 2 ^ m) (B : Blocks m rs x fx bs) : fx &&& x = x := by
  refine Nat.eq_of_testBit_eq fun k => ?_
  rw [Bool.eq_iff_iff]
  show HasB (fx &&& x) k ↔ HasB x k
  rw [hasb_and]
  exact ⟨fun z => z.2, fun z => ⟨B.fix.mpr ⟨hasb_lt hx z, fun d _ ha hd => ha k hd z⟩, z⟩⟩
open PySem PySem.Spec PyProof.Rows
/-- uses told with the rule itself -/
def UAt (H : Hp) (rs : List Rl) (uw : List SW) : Prop := ∀ w ∈ uw, ∃ r : Rl, rs[w.2.1]? = some r ∧ H w.1 = some (.tup [.ref r.r, vN w.2.2])
theorem UAt.same {H H' : Hp} {rs : List Rl} {uw : List SW} (h : UAt H rs uw) (e : Same H H') : UAt H' rs uw := fun w hw => by
  obtain ⟨r, h1, h2⟩ := h w hw
  exact ⟨r, h1, e _ _ h2⟩
theorem UAt.snoc {H : Hp} {rs : List Rl} {uw : List SW} {w : SW} (h : UAt H rs uw) (hw : ∃ r : Rl, rs[w.2.1]? = some r ∧ H w.1 = some (.tup [.ref r.r, vN w.2.2])) : UAt H rs (uw ++ [w]) := fun v hv => by
  rcases List.mem_append.mp hv with hv | hv
  · exact h v hv
  · rw [List.mem_singleton.mp hv]; exact hw
theorem UAt.append {H : Hp} {rs : List Rl} {uw vw : List SW} (h : UAt H rs uw) (h' : UAt H rs vw) : UAt H rs (uw ++ vw) := fun v hv => by
  rcases List.mem_append.mp hv with hv | hv
  · exact h v hv
  · exact h' v hv
end L2

namespace L2
/-! ### covers -/
def colBit (x c : Nat) : Nat := x - (x &&& 2 ^ c)
structure LeastP (m : Nat) (rs ls : List RD) : Prop where
  kept : ∀ d, KeptS m rs d ↔ KeptS m ls d
  len : ls.length = rs.length
  each : ∀ (i : Nat) (l r : RD), ls[i]? = some l → rs[i]? = some r → l.1 = r.1 ∧ l.2.2 = r.2.2 ∧ (∀ k, HasB l.2.1 k → HasB r.2.1 k) ∧ (l.1 = false → l = r) ∧ (l.1 = true → ∀ c, HasB l.2.1 c → ¬ FolP m rs true (colBit l.2.1 c) l.2.2)
structure NeedP (m : Nat) (rs cs : List RD) : Prop where
  kept : ∀ d, KeptS m rs d ↔ KeptS m cs d
  sub : cs.Sublist rs
  each : ∀ (i : Nat) (r : RD), cs[i]? = some r → ¬ FolP m (cs.eraseIdx i) r.1 r.2.1 r.2.2
open PySem PySem.Spec PyProof.Rows
/-- the least lefts under way -/
structure LCore (H : Hp) (m : Nat) (rs ls : List Rl) (p : Addr) (H' : Hp) : Prop where
  same : Same H H'
  hp0 : H p = none
  hp : H' p = some (.lst (ls.map fun r => V.ref r.r))
  at_ : RulesAt H' m ls
  len : ls.length = rs.length
  kept : ∀ d, KeptS m (rs.map Rl.d) d ↔ KeptS m (ls.map Rl.d) d
theorem LCore.mono {H H' H'' : Hp} {m : Nat} {rs ls : List Rl} {p : Addr} (c : LCore H m rs ls p H') (e : Same H' H'') : LCore H m rs ls p H'' :=
  ⟨c.same.trans e, c.hp0, e _ _ c.hp, c.at_.same e, c.len, c.kept⟩
end L2

namespace L2
open PySem PySem.Spec PyProof.Rows
structure PR (K : PySem.W.Frag) (H : Hp) (st : Addr) (ns : List Int) (m : Nat) (g : Addr) (rs : List Rl) (k : Nat) (H' : Hp) : Prop where
  at_ : RulesAt H' m rs
  hg : H' g = some (.lst (rs.map fun r => V.ref r.r))
  S : STF K H' st ns k
  B : But st H H'
  hg0 : H g = none
  hgs : g ≠ st
end L2

namespace L2
open PySem PySem.Spec PyProof.Rows
/-! ### sorted(.., reverse=True) of what stands so already: one run, of any length -/
section
variable {prog : Program} {w : World} {A : Around} {E : Value → Shared → Prop} {s : Shared} {a₀ : Array Keyed} {κ : KeyKind}
end
section
variable {X : Cx} {K : PySem.W.Frag}
end
end L2

namespace L2
open PySem PySem.Spec PyProof.Rows
/-! ### a rule in a list of rules; covers say the same (k42) -/
section
variable {X : Cx} {K : PySem.W.Frag}
end
end L2

namespace L2
open PySem PySem.Spec PyProof.Rows
/-! ### all blocks at once -/
def nz (b : Nat) : Bool := !decide (b = 0)
theorem nz_iff {b : Nat} : nz b = true ↔ b ≠ 0 := by unfold nz; rw [Bool.not_eq_true', decide_eq_false_iff_not]
def pieces (r : RD) (b : Nat) : List Nat := if r.2.1 &&& b ≠ 0 then [b] else if r.1 = true then [b - (b &&& r.2.2)] else [b &&& r.2.2, b - (b &&& r.2.2)]
def partAll (r : RD) (bs : List Nat) : List Nat := (bs.flatMap (pieces r)).filter nz
/-! ### covers, rule by rule -/
end L2

namespace L2
open PySem PySem.Spec PyProof.Rows
/-! ### two lists walked side by side -/
section
variable {X : Cx} {pins : List (Addr × Obj)} {σ : St} {H : Hp} {s : Shared}
end
end L2

namespace L2
open PySem PySem.Spec PyProof.Rows
/-! ### covers told exactly -/
structure LCoreX (H : Hp) (m n : Nat) (ls : List Rl) (p : Addr) (H' : Hp) : Prop where
  same : Same H H'
  hp0 : H p = none
  hp : H' p = some (.lst (ls.map fun r => V.ref r.r))
  at_ : RulesAt H' m ls
  len : ls.length = n
theorem LCoreX.mono {H H' H'' : Hp} {m n : Nat} {ls : List Rl} {p : Addr} (c : LCoreX H m n ls p H') (e : Same H' H'') : LCoreX H m n ls p H'' :=
  ⟨c.same.trans e, c.hp0, e _ _ c.hp, c.at_.same e, c.len⟩
/-- a rule put at a place -/
theorem LCoreX.put {H H' : Hp} {m n i : Nat} {ls : List Rl} {p sp : Addr} {st : Bool} {x y : Nat} (c : LCoreX H m n ls p H') (hsp : RuleAt H' sp st x y) (hx : x < 2 ^ m) (hy : y < 2 ^ m) : LCoreX H m n (ls.set i ⟨sp, st, x, y⟩) p (upd H' p (.lst ((ls.set i ⟨sp, st, x, y⟩).map fun r => V.ref r.r))) := by
  refine ⟨c.same.own c.hp0, c.hp0, upd_same, fun r hr => ?_, by rw [List.length_set]; exact c.len⟩
  rcases List.mem_or_eq_of_mem_set hr with h | h
  · exact (c.at_.put c.hp) r h
  · rw [h]
    refine ⟨?_, hx, hy⟩
    show upd _ _ _ sp = _
    rw [upd_ne (ne_of hsp c.hp (by intro z; cases z))]
    exact hsp
end L2

namespace L2
open PySem PySem.Spec PyProof.Rows
end L2

namespace L2
open PySem PySem.Spec PyProof.Rows PySem.W
/-! ### all sets within a set, size by size -/
def manyN (a : Nat) : Nat := ((List.range 7).filter (hasB a)).length
def rowN (a m : Nat) : List Nat := (List.range (a + 1)).filter fun x => decide (x &&& a = x) && decide (manyN x = m)
def dueM (a m : Nat) : List Nat := (List.range m).flatMap (rowN a)
def dueN (a : Nat) : List Nat := dueM a 8
/-- one column more for one set -/
def upOf (a x : Nat) : List Nat := ((colsN a).filter fun c => decide (x < 2 ^ c)).map fun c => x ||| 2 ^ c
def moreN (a : Nat) (l : List Nat) : List Nat := l.flatMap (upOf a)
theorem more_perm : ∀ a, a < 128 → ∀ i, i < 8 → (moreN a (rowN a i)).isPerm (rowN a (i + 1)) = true := by decide +kernel
theorem row_len : ∀ a, a < 128 → ∀ i, i < 9 → (rowN a i).length ≤ 35 := by decide +kernel
theorem row_zero : ∀ a, a < 128 → rowN a 0 = [0] := by decide +kernel
theorem row_last : ∀ a, a < 128 → rowN a 8 = [] := by decide +kernel
theorem row_due : ∀ a, a < 128 → ∀ i, i < 9 → rowN a i = [] → dueM a i = dueN a := by decide +kernel
theorem cols7 : ∀ a, a < 128 → (colsN a).length ≤ 7 ∧ (colsN a).all (fun c => decide (c < 7)) = true := by decide +kernel
theorem row_up (a m : Nat) : (rowN a m).Pairwise (· ≤ ·) := by
  have h : ∀ n, (List.range n).Pairwise (· ≤ ·) := fun n => List.Pairwise.imp Nat.le_of_lt List.pairwise_lt_range
  exact (h _).filter _
theorem row_is {a i : Nat} (ha : a < 128) (hi : i < 8) {ns : List Int} (p : ns.Perm ((moreN a (rowN a i)).map fun (k : Nat) => (k : Int))) (s : ns.Pairwise (· ≤ ·)) : ns = (rowN a (i + 1)).map fun (k : Nat) => (k : Int) := by
  have p2 := p.trans ((List.isPerm_iff.mp (more_perm a ha i hi)).map fun (k : Nat) => (k : Int))
  refine List.Perm.eq_of_pairwise (le := fun (x y : Int) => x ≤ y) (fun x y _ _ h1 h2 => Int.le_antisymm h1 h2) s ?_ p2
  rw [List.pairwise_map]
  exact (row_up a (i + 1)).imp fun h => Int.ofNat_le.mpr h
theorem dueM_succ (a m : Nat) : dueM a (m + 1) = dueM a m ++ rowN a m := by
  unfold dueM
  rw [List.range_succ, List.flatMap_append]
  simp
theorem upOf_len (a x : Nat) (ha : a < 128) : (upOf a x).length ≤ 7 := by
  unfold upOf
  rw [List.length_map]
  exact Nat.le_trans (List.length_filter_le _ _) (cols7 a ha).1
theorem moreN_len (a : Nat) (ha : a < 128) : ∀ l : List Nat, (moreN a l).length ≤ 7 * l.length
  | [] => Nat.zero_le _
  | x :: l => by
    have h1 := moreN_len a ha l
    have h2 := upOf_len a x ha
    show (upOf a x ++ moreN a l).length ≤ _
    rw [List.length_append, List.length_cons]
    omega
theorem moreN_succ {a i x : Nat} {l : List Nat} (h : l[i]? = some x) : moreN a (l.take (i + 1)) = moreN a (l.take i) ++ upOf a x := by
  unfold moreN
  rw [List.take_succ, h, List.flatMap_append]
  simp
theorem Same.own3 {H H' : Hp} {p : Addr} {o : HO} (e : Same H H') (h : H p = Option.none) : Same H (upd H' p o) := fun c u z => by
  rw [upd_ne (ne_of_none z h)]; exact e _ _ z
def spOneUp : Sp := fun vs H Q _ => ∃ (p : Addr) (a i : Nat), vs = [.ref p, vN a] ∧ a < 128 ∧ i < 8 ∧ H p = some (.lst ((rowN a i).map vN)) ∧ ∀ (l : Addr) (H' : Hp), Same H H' → H l = none → H' l = some (.lst ((rowN a (i + 1)).map vN)) → Q (.ref l) H'
end L2

namespace L2
open PySem PySem.Spec PyProof.Rows
section
variable {X : Cx} {K : PySem.W.Frag}
end
/-! ### what a set settles, told by the sets that keep the rules; keys -/
def SetA (m : Nat) (rs : List RD) (x : Nat) : Prop := ∀ d, KeptS m rs d → Apart x d → False
theorem Blocks.whole {m x fx : Nat} {rs : List RD} {bs : List Nat} (B : Blocks m rs x fx bs) : fx = 2 ^ m - 1 ↔ SetA m rs x := by
  have hs := B.good.sum
  constructor
  · intro e d hd ha
    obtain ⟨b, hb, _⟩ := B.holds d hd ha
    have h1 := mem_sum hb
    have h2 := B.good.pos b hb
    omega
  · intro h
    cases bs with
    | nil => exact hs
    | cons b bs => exact (h b (B.kept b (List.mem_cons_self ..)) (B.apart b (List.mem_cons_self ..))).elim
/-- the fixed columns behind all blocks at once -/
def FixU (r : RD) (fx : Nat) (bs : List Nat) (fz : Nat) : Prop := ∀ k, HasB fz k ↔ HasB fx k ∨ ∃ b ∈ bs, r.2.1 &&& b = 0 ∧ r.1 = true ∧ HasB b k ∧ HasB r.2.2 k
theorem FixU.nil (r : RD) (fx : Nat) : FixU r fx [] fx := fun k => ⟨.inl, fun h => h.elim id fun ⟨_, hb, _⟩ => absurd hb List.not_mem_nil⟩
theorem piece_sub {r : RD} {b c k : Nat} (hc : c ∈ pieces r b) (h : HasB c k) : HasB b k := by
  unfold pieces at hc
  split at hc
  · rw [List.mem_singleton.mp hc] at h; exact h
  · split at hc
    · rw [List.mem_singleton.mp hc] at h; exact ((hasb_out _ _ _).mp h).1
    · rcases List.mem_cons.mp hc with e | hc
      · rw [e] at h; exact ((hasb_and _ _ _).mp h).1
      · rw [List.mem_singleton.mp hc] at h; exact ((hasb_out _ _ _).mp h).1
theorem mem_part {r : RD} {bs : List Nat} {c : Nat} : c ∈ partAll r bs ↔ (∃ b ∈ bs, c ∈ pieces r b) ∧ c ≠ 0 := by
  unfold partAll
  rw [List.mem_filter, List.mem_flatMap, nz_iff]
theorem hasb_pos {a k : Nat} (h : HasB a k) : a ≠ 0 := fun e => by
  rw [e] at h
  unfold HasB at h
  rw [Nat.zero_testBit] at h
  cases h
theorem FixU.done {m fx fx' fz : Nat} {r : RD} {bs : List Nat} (h : FixU r fx bs fz) (G : Good m fx (bs.filter nz)) (G' : Good m fx' (partAll r bs)) : fz = fx' := by
  have inb : ∀ {b k : Nat}, b ∈ bs → HasB b k → b ∈ bs.filter nz := fun hb hk => List.mem_filter.mpr ⟨hb, nz_iff.mpr (hasb_pos hk)⟩
  refine Nat.eq_of_testBit_eq fun k => ?_
  rw [Bool.eq_iff_iff, G'.col]
  refine (h k).trans ?_
  constructor
  · rintro (h1 | ⟨b, hb, e1, e2, h3, h4⟩)
    · obtain ⟨hk, hn⟩ := G.col.mp h1
      refine ⟨hk, fun c hc => ?_⟩
      obtain ⟨⟨b, hb, hc'⟩, _⟩ := mem_part.mp hc
      cases z : c.testBit k with
      | false => rfl
      | true =>
        have hbk := piece_sub hc' z
        have h5 := hn b (inb hb hbk)
        unfold HasB at hbk
        rw [hbk] at h5
        cases h5
    · have hbf := inb hb h3
      refine ⟨hasb_lt (G.lt hbf) h3, fun c hc => ?_⟩
      obtain ⟨⟨b', hb', hc'⟩, _⟩ := mem_part.mp hc
      cases z : c.testBit k with
      | false => rfl
      | true =>
        exfalso
        have hbk := piece_sub hc' z
        have hbf' := inb hb' hbk
        by_cases e : b = b'
        · subst e
          unfold pieces at hc'
          rw [if_neg (fun z => z e1), if_pos e2] at hc'
          rw [List.mem_singleton.mp hc'] at z
          exact ((hasb_out _ _ _).mp z).2 h4
        · have h6 := pw_ne G.pw hbf hbf' e
          have h7 := (hasb_and b b' k).mpr ⟨h3, hbk⟩
          rw [h6] at h7
          exact hasb_pos h7 rfl
  · rintro ⟨hk, hn⟩
    have no : ∀ c, c ∈ partAll r bs → HasB c k → False := fun c hc z => by
      have := hn c hc
      unfold HasB at z
      rw [z] at this
      cases this
    by_cases hx : ∃ b ∈ bs, HasB b k
    · obtain ⟨b, hb, hbk⟩ := hx
      by_cases e1 : r.2.1 &&& b = 0
      · by_cases e2 : r.1 = true
        · by_cases h4 : HasB r.2.2 k
          · exact .inr ⟨b, hb, e1, e2, hbk, h4⟩
          · have h5 : HasB (b - (b &&& r.2.2)) k := (hasb_out _ _ _).mpr ⟨hbk, h4⟩
            refine (no _ (mem_part.mpr ⟨⟨b, hb, ?_⟩, hasb_pos h5⟩) h5).elim
            unfold pieces
            rw [if_neg (fun z => z e1), if_pos e2]
            exact List.mem_singleton.mpr rfl
        · have hp : pieces r b = [b &&& r.2.2, b - (b &&& r.2.2)] := by unfold pieces; rw [if_neg (fun z => z e1), if_neg e2]
          by_cases h4 : HasB r.2.2 k
          · have h5 : HasB (b &&& r.2.2) k := (hasb_and _ _ _).mpr ⟨hbk, h4⟩
            refine (no _ (mem_part.mpr ⟨⟨b, hb, ?_⟩, hasb_pos h5⟩) h5).elim
            rw [hp]
            exact List.mem_cons_self ..
          · have h5 : HasB (b - (b &&& r.2.2)) k := (hasb_out _ _ _).mpr ⟨hbk, h4⟩
            refine (no _ (mem_part.mpr ⟨⟨b, hb, ?_⟩, hasb_pos h5⟩) h5).elim
            rw [hp]
            exact List.mem_cons_of_mem _ (List.mem_singleton.mpr rfl)
      · refine (no _ (mem_part.mpr ⟨⟨b, hb, ?_⟩, hasb_pos hbk⟩) hbk).elim
        unfold pieces
        rw [if_pos e1]
        exact List.mem_singleton.mpr rfl
    · refine .inl (G.col.mpr ⟨hk, fun b hb => ?_⟩)
      cases z : b.testBit k with
      | false => rfl
      | true => exact (hx ⟨b, (List.mem_filter.mp hb).1, z⟩).elim
/-! keys -/
/-- all sets, by how many columns they have -/
def sumB (m x : Nat) : Nat := ((List.range m).map fun k => x / 2 ^ k &&& 1).sum
def setsM (m s : Nat) : List Nat := (List.range s).flatMap fun n => (List.range (2 ^ m)).filter fun x => decide (sumB m x = n)
def setsN (m : Nat) : List Nat := setsM m (m + 1)
end L2

namespace L2
open PySem PySem.Spec PyProof.Rows
section
variable {X : Cx} {K : PySem.W.Frag}
end
/-! ### keys told by the sets that keep the rules -/
/-- what k45 asks of the keys -/
structure KeyP (m : Nat) (rs : List RD) (f : List Nat) : Prop where
  own : (setsN m).filter (fun x => decide (x ∈ f)) = f
  lt : ∀ x ∈ f, x < 2 ^ m
  met : ∀ x ∈ f, ∀ d, KeptS m rs d → d &&& x ≠ 0
  need : ∀ x ∈ f, ∀ k, HasB x k → ∃ d, KeptS m rs d ∧ d &&& x = 2 ^ k
  held : ∀ x, x < 2 ^ m → (∀ d, KeptS m rs d → d &&& x ≠ 0) → ∃ y ∈ f, y &&& x = y
end L2

namespace L2
open PySem PySem.Spec PyProof.Rows
/-! ### the laws of cuts: their rules and parts; a cut in two -/
section
variable {K : PySem.W.Frag} {H H1 H2 : Hp} {st g p : Addr} {ns : List Int} {m k k' : Nat} {rs rs' : List Rl} {o : HO} {ys : List V}
theorem PR.take (R : PR K H st ns m g rs k H1) (S : STF K H2 st ns k') (B : But st H1 H2) : PR K H st ns m g rs k' H2 :=
  ⟨fun r hr => ⟨stf_tup R.S B (R.at_ r hr).1, (R.at_ r hr).2⟩, B _ _ R.hg R.hgs, S, R.B.trans B, R.hg0, R.hgs⟩
theorem PR.new (R : PR K H st ns m g rs k H1) (hp : H1 p = none) : PR K H st ns m g rs k (upd H1 p o) :=
  ⟨R.at_.same (Same.new hp), Same.new hp _ _ R.hg, R.S.new hp, R.B.trans (But.new hp), R.hg0, R.hgs⟩
theorem PR.put (R : PR K H st ns m g rs k H1) (h : RulesAt H1 m rs') (e : ys = rs'.map fun r => V.ref r.r) : PR K H st ns m g rs' k (upd H1 g (.lst ys)) :=
  ⟨h.put R.hg, by rw [upd_same, e], R.S.put R.hg R.hgs, R.B.own R.hg0, R.hg0, R.hgs⟩
end
theorem bits_eq {a b : Nat} (h : ∀ k, HasB a k ↔ HasB b k) : a = b := Nat.eq_of_testBit_eq fun k => by
  rw [Bool.eq_iff_iff]; exact h k
theorem hasb_all {m : Nat} (k : Nat) : HasB (2 ^ m - 1) k ↔ k < m := by
  have h0 : (0 : Nat) < 2 ^ m := Nat.two_pow_pos m
  have h := hasb_full h0 k
  rw [Nat.sub_zero] at h
  rw [h]
  exact ⟨fun z => z.1, fun z => ⟨z, fun w => by unfold HasB at w; rw [Nat.zero_testBit] at w; cases w⟩⟩
/-- a block with columns out of the one part and out of the other -/
def tornB (x y b : Nat) : Bool := !decide (b &&& x = b) && !decide (b &&& y = b)
def CutV (H : Hp) (x y : Nat) (s : US) (t : Addr) : Prop :=
  (∃ b, s.bs.find? (tornB x y) = some b ∧ H t = some (.tup [.str "unsafe", vN b])) ∨
  (s.bs.find? (tornB x y) = none ∧ ∃ (q : Addr) (sw : List SW), H q = some (.lst (sw.map fun w => V.ref w.1)) ∧ StepsAt H sw ∧ sw.map (·.2) = s.st ∧ sw.length ≤ 300 ∧ H t = some (.tup [.str "safe", .ref q]))
theorem CutV.same {H H' : Hp} {x y : Nat} {s : US} {t : Addr} (h : CutV H x y s t) (e : Same H H') : CutV H' x y s t := by
  rcases h with ⟨b, h1, h2⟩ | ⟨h1, q, sw, h2, h3, h4, h5, h6⟩
  · exact .inl ⟨b, h1, e _ _ h2⟩
  · exact .inr ⟨h1, q, sw, e _ _ h2, h3.same e, h4, h5, e _ _ h6⟩
end L2

namespace L2
open PySem PySem.Spec PyProof.Rows
/-! ### the cover of a cover is the cover -/
/-! keys hang on what the rules say alone -/
end L2

namespace L2
open PySem PySem.Spec PyProof.Rows
/-! ### what a set settles, as a number; gains part by part -/
open Classical in
noncomputable def fixF (m : Nat) (rs : List RD) (x : Nat) : Nat := if h : ∃ fx bs, Blocks m rs x fx bs then h.choose else 0
theorem Blocks.fixF {m x fx : Nat} {rs : List RD} {bs : List Nat} (B : Blocks m rs x fx bs) : L2.fixF m rs x = fx := by
  have h : ∃ fx bs, Blocks m rs x fx bs := ⟨fx, bs, B⟩
  obtain ⟨bs', B'⟩ := h.choose_spec
  unfold L2.fixF
  rw [dif_pos h]
  exact (B'.same B fun d => Iff.rfl).1
theorem fixF_lt (m : Nat) (rs : List RD) (x : Nat) : fixF m rs x < 2 ^ m := by
  have pw : 0 < 2 ^ m := Nat.two_pow_pos m
  unfold fixF
  by_cases h : ∃ fx bs, Blocks m rs x fx bs
  · rw [dif_pos h]
    obtain ⟨bs', B'⟩ := h.choose_spec
    have := B'.good.sum
    omega
  · rw [dif_neg h]; exact pw
noncomputable def gainN (m : Nat) (rs : List RD) (z p : Nat) : Nat := (fixF m rs (z &&& p) &&& p) - ((fixF m rs (z &&& p) &&& p) &&& z)
theorem gain_bits {m z p : Nat} {rs : List RD} (k : Nat) : HasB (gainN m rs z p) k ↔ HasB (fixF m rs (z &&& p)) k ∧ HasB p k ∧ ¬ HasB z k := by
  unfold gainN
  rw [hasb_out, hasb_and, and_assoc]
theorem gain_lt (m : Nat) (rs : List RD) (z p : Nat) : gainN m rs z p < 2 ^ m := by
  have h1 := fixF_lt m rs (z &&& p)
  have h2 : fixF m rs (z &&& p) &&& p ≤ fixF m rs (z &&& p) := Nat.and_le_left
  unfold gainN
  omega
noncomputable def gB (m : Nat) (rs : List RD) (z : Nat) (ps : List Nat) (i : Nat) : Bool := !decide (gainN m rs z (ps.getD i 0) = 0)
noncomputable def stepG (m : Nat) (rs : List RD) (ps : List Nat) (z : Nat) : Option (Nat × Nat) := ((List.range ps.length).find? (gB m rs z ps)).map fun i => (i, gainN m rs z (ps.getD i 0))
theorem stepG_some {m z : Nat} {rs : List RD} {ps : List Nat} {u : Nat × Nat} (h : stepG m rs ps z = some u) : ∃ p, ps[u.1]? = some p ∧ u.2 = gainN m rs z p ∧ u.2 ≠ 0 := by
  unfold stepG at h
  rw [Option.map_eq_some_iff] at h
  obtain ⟨i, hi, rfl⟩ := h
  have h1 := List.find?_some hi
  have h2 := List.mem_range.mp (List.mem_of_find?_eq_some hi)
  have e : ps[i]? = some ps[i] := List.getElem?_eq_getElem h2
  have ed : ps.getD i 0 = ps[i] := by rw [List.getD_eq_getElem?_getD, e]; rfl
  refine ⟨ps[i], e, by show gainN m rs z (ps.getD i 0) = _; rw [ed], ?_⟩
  unfold gB at h1
  rw [Bool.not_eq_true', decide_eq_false_iff_not] at h1
  exact h1
noncomputable def runG (m : Nat) (rs : List RD) (ps : List Nat) : Nat → Nat → List (Nat × Nat) × Nat
  | 0, z => ([], z)
  | n + 1, z => match stepG m rs ps z with
    | none => ([], z)
    | some u => (u :: (runG m rs ps n (z ||| u.2)).1, (runG m rs ps n (z ||| u.2)).2)
/-- gains under way: gs told so far, z come to, n steps left at most -/
structure GAt (m : Nat) (rs : List RD) (ps : List Nat) (z0 : Nat) (gs : List (Nat × Nat)) (z n : Nat) : Prop where
  lt : z < 2 ^ m
  fuel : 2 ^ m - 1 - z ≤ n
  egs : gs ++ (runG m rs ps n z).1 = (runG m rs ps 128 z0).1
  ez : (runG m rs ps n z).2 = (runG m rs ps 128 z0).2
  len : gs.length + n ≤ 128
  sub : z0 &&& z = z0
theorem GAt.begin {m z0 : Nat} {rs : List RD} {ps : List Nat} (m7 : m ≤ 7) (hz : z0 < 2 ^ m) : GAt m rs ps z0 [] z0 128 :=
  ⟨hz, by have := pow7 m7; omega, rfl, rfl, Nat.le_refl _, Nat.and_self _⟩
theorem GAt.next {m z0 z n : Nat} {rs : List RD} {ps : List Nat} {gs : List (Nat × Nat)} {u : Nat × Nat} (G : GAt m rs ps z0 gs z n) (h : stepG m rs ps z = some u) : ∃ n', n = n' + 1 ∧ GAt m rs ps z0 (gs ++ [u]) (z ||| u.2) n' := by
  obtain ⟨p, hp, e, ne⟩ := stepG_some h
  have hlt : z ||| u.2 < 2 ^ m := Nat.or_lt_two_pow G.lt (by rw [e]; exact gain_lt _ _ _ _)
  have hle : z ≤ z ||| u.2 := Nat.left_le_or
  have hne : z ||| u.2 ≠ z := fun w => by
    obtain ⟨k, hk⟩ : ∃ k, HasB u.2 k := Nat.exists_testBit_of_ne_zero ne
    have h1 : HasB (z ||| u.2) k := (hasb_or _ _ _).mpr (.inr hk)
    rw [w] at h1
    rw [e] at hk
    exact ((gain_bits k).mp hk).2.2 h1
  have hf := G.fuel
  cases n with
  | zero => exact absurd hlt (by omega)
  | succ n =>
    have hg := G.egs
    have hz := G.ez
    unfold runG at hg hz
    rw [h] at hg hz
    have hl := G.len
    refine ⟨n, rfl, hlt, by omega, ?_, ?_, by rw [List.length_append]; show gs.length + 1 + n ≤ 128; omega, ?_⟩
    · rw [List.append_assoc]; exact hg
    · exact hz
    · refine Nat.eq_of_testBit_eq fun k => ?_
      have hs := G.sub
      rw [Bool.eq_iff_iff]
      show HasB (z0 &&& (z ||| u.2)) k ↔ HasB z0 k
      rw [hasb_and, hasb_or]
      refine ⟨fun w => w.1, fun w => ⟨w, .inl ?_⟩⟩
      rw [← hs] at w
      exact ((hasb_and _ _ _).mp w).2
theorem GAt.done {m z0 z n : Nat} {rs : List RD} {ps : List Nat} {gs : List (Nat × Nat)} (G : GAt m rs ps z0 gs z n) (h : stepG m rs ps z = none) : gs = (runG m rs ps 128 z0).1 ∧ z = (runG m rs ps 128 z0).2 := by
  have hg := G.egs
  have hz := G.ez
  cases n with
  | zero =>
    unfold runG at hg hz
    rw [List.append_nil] at hg
    exact ⟨hg, hz⟩
  | succ n =>
    unfold runG at hg hz
    rw [h] at hg hz
    rw [List.append_nil] at hg
    exact ⟨hg, hz⟩
/-- what is told of a rule part by part -/
def GainV (H : Hp) (y : Nat) (R : List (Nat × Nat) × Nat) (t : Addr) : Prop :=
  (y &&& R.2 = y ∧ ∃ (q : Addr) (sw : List SW), H q = some (.lst (sw.map fun w => V.ref w.1)) ∧ StepsAt H sw ∧ sw.map (·.2) = R.1 ∧ sw.length ≤ 300 ∧ H t = some (.tup [.str "yes", .ref q])) ∨
  (y &&& R.2 ≠ y ∧ H t = some (.tup [.str "no", vN R.2]))
theorem GainV.same {H H' : Hp} {y : Nat} {R : List (Nat × Nat) × Nat} {t : Addr} (h : GainV H y R t) (e : Same H H') : GainV H' y R t := by
  rcases h with ⟨h1, q, sw, h2, h3, h4, h5, h6⟩ | ⟨h1, h2⟩
  · exact .inl ⟨h1, q, sw, e _ _ h2, h3.same e, h4, h5, e _ _ h6⟩
  · exact .inr ⟨h1, e _ _ h2⟩
end L2

namespace L2
open PySem PySem.Spec PyProof.Rows
end L2

namespace L2
open PySem PySem.Spec PyProof.Rows
/-! ### every set is unfolded; gains told by the sets that keep the rules -/
theorem run_ex {rs : List RD} {m : Nat} : ∀ (n : Nat) (s : US), muS s.bs ≤ n → Good m s.fx s.bs → ∃ t, Run rs s t
  | 0, s, hn, g => by
    cases e : usesN rs s.bs rs.length with
    | nil => exact ⟨s, .done e⟩
    | cons u us =>
      have := (step_good (m := m) (rs := rs) (s := s) (u := u) g (by rw [e]; exact List.mem_cons_self ..)).2
      omega
  | n + 1, s, hn, g => by
    cases e : usesN rs s.bs rs.length with
    | nil => exact ⟨s, .done e⟩
    | cons u us =>
      obtain ⟨g', mu⟩ := step_good (m := m) (rs := rs) (s := s) (u := u) g (by rw [e]; exact List.mem_cons_self ..)
      obtain ⟨t, R⟩ := run_ex n (stepS rs s u) (by omega) g'
      exact ⟨t, .step e R⟩
/-- gains one behind the other -/
inductive GL (m : Nat) (rs : List RD) (ps : List Nat) : Nat → List (Nat × Nat) → Nat → Prop
  | nil {z : Nat} : GL m rs ps z [] z
  | cons {z z' : Nat} {u : Nat × Nat} {l : List (Nat × Nat)} : stepG m rs ps z = some u → GL m rs ps (z ||| u.2) l z' → GL m rs ps z (u :: l) z'
theorem GL.sub {m z z' : Nat} {rs : List RD} {ps : List Nat} {l : List (Nat × Nat)} (h : GL m rs ps z l z') : ∀ k, HasB z k → HasB z' k := by
  induction h with
  | nil => exact fun k hk => hk
  | cons _ _ ih => exact fun k hk => ih k ((hasb_or _ _ _).mpr (.inl hk))
theorem sub_and {a b : Nat} (h : ∀ k, HasB a k → HasB b k) : a &&& b = a := bits_eq fun k => by
  rw [hasb_and]
  exact ⟨fun z => z.1, fun z => ⟨z, h k z⟩⟩
end L2

namespace L2
open PySem PySem.Spec PyProof.Rows
/-! ### exceptions: how one lies behind a call, a def that raises, a def that lets one through -/
theorem ho_there {P : Program} {w : World} {H : Hp} {h : Heap} {a : Addr} {o : HO} (x : ObjOk P w H h a o) : ∃ ob, h.get? a = some ob := by
  cases o with
  | lst xs => obtain ⟨_, _, _, _, e⟩ := x; exact ⟨_, e⟩
  | tup xs => obtain ⟨_, _, _, ob, e, _⟩ := x; exact ⟨_, e⟩
  | dK kvs => obtain ⟨_, _, _, _, o, _, _, e, _⟩ := x; exact ⟨_, e⟩
  | dT kvs => obtain ⟨_, _, _, _, o, _, _, e, _⟩ := x; exact ⟨_, e⟩
  | set S n => obtain ⟨o, _, _, _, e, _⟩ := x; exact ⟨_, e⟩
  | ins C dx fs => obtain ⟨_, _, _, e, _⟩ := x; exact ⟨_, e⟩
  | own y => exact x
  | xd fs => obtain ⟨_, ⟨_, _, _, e, _⟩, _⟩ := x; exact ⟨_, e⟩
  | rng lo hi => obtain ⟨_, _, _, e⟩ := x; exact ⟨_, e⟩
  | frz ob u => exact ⟨_, x.1⟩
  | tbl ps => exact ⟨_, x⟩
  | met f y => exact ⟨_, x⟩
  | ext φ => exact x.2.1
/-- an exception under way: ea of the class at C; B is what stays as it is, all that is tracked in it -/
structure Fly (P : Program) (w : World) (outer : List Env) (H H' : Hp) (s s' : Shared) (ea C : Addr) (B : Heap) : Prop where
  os : s'.os = s.os
  bare : AllBare s'.gens
  un : Un (frs outer) [] H H' s.heap s'.heap
  hok : HOk P w H' B
  inB : ∀ b o, s.heap.get? b = some o → H b = none → b ∉ frs outer → B.get? b = some o
  ex : ∀ b o, s.heap.get? b = some o → b ∉ frs outer → ∃ o', B.get? b = some o'
  fly : ∃ a0, Heap.FlyingW B outer ea (.ref C) a0 s'.heap
theorem Fly.fresh {P : Program} {w : World} {outer : List Env} {H H' : Hp} {s s' : Shared} {ea C : Addr} {B : Heap} (F : Fly P w outer H H' s s' ea C B) : H' ea = none := by
  obtain ⟨a0, f⟩ := F.fly
  cases q : H' ea with
  | none => rfl
  | some o =>
    obtain ⟨ob, e⟩ := ho_there (F.hok ea o q)
    rw [f.2.1] at e
    cases e
def CX1 (P : Program) (w : World) : CXT := fun outer H s E e s' => ∃ ea C B H', e = .ref ea ∧ Fly P w outer H H' s s' ea C B ∧ E (.ref C) none H'
section
variable {P : Program} {w : World} {K : PySem.W.Frag} {mg : Str → Option Value} {base : Heap} {N : List Str} {qual : Str} {scope : Scope} {f : Addr} {cd : Value} {A : Around} {outer : List Env} {s₀ : Shared} {H₀ : Hp} {E E' : XK}
theorem frs_cons {env : Env} {L : Addr} {l : List Env} (h : env.frame = some L) : frs (env :: l) = L :: frs l := by
  unfold frs
  rw [List.filterMap_cons, h]
/-- a def that raises -/
theorem raise_out {pins : List (Addr × Obj)} {σ : St} {H : Hp} {s : Shared} {h' : Heap} {e C : Addr} {vs : List Value} (I : Inv (cxOf (CX1 P w) P w K mg base N qual scope f cd A outer s₀ H₀ E) pins σ H s)
    (hx : Heap.MadeExcOf s.heap h' e (.ref C) vs) (hE : E (.ref C) none H) : (cxOf (CX1 P w) P w K mg base N qual scope f cd A outer s₀ H₀ E).xe (.ref e) { s with heap := h' } := by
  have hf : (envOfC qual scope s₀.heap.objs.size f cd).frame = some s₀.heap.objs.size := rfl
  have hfr : (A.deeper (envOfC qual scope s₀.heap.objs.size f cd)).frames = some (envOfC qual scope s₀.heap.objs.size f cd :: outer) := I.ok.frames
  have hst : s.heap.FunFrames base (envOfC qual scope s₀.heap.objs.size f cd :: outer) := I.stack
  have hl := PySem.W.funFrames_hide (as := frs (envOfC qual scope s₀.heap.objs.size f cd :: outer)) hst fun env he b hb => List.mem_filterMap.mpr ⟨env, he, hb⟩
  have nin : ∀ b o, s₀.heap.get? b = some o → b ∉ frs outer → b ∉ frs (envOfC qual scope s₀.heap.objs.size f cd :: outer) := fun b o q hb hm => by
    rw [frs_cons hf] at hm
    rcases List.mem_cons.mp hm with z | z
    · exact absurd (Heap.lt_size q) (by rw [z]; exact Nat.lt_irrefl _)
    · exact hb z
  refine wpAny_leaves_madeW (s := { s with heap := h' }) hfr hf (fun b o q => PySem.W.of_hideAll _ q) hl hx fun h2 t x1 x2 x3 x4 => ?_
  have base0 : Un (frs outer) [] H₀ H s₀.heap s.heap := I.base
  have slot : ∀ b o, s₀.heap.get? b = some o → H₀ b = none → b ∈ frs outer → ∃ sl, h2.get? b = some { o with slots := sl } := fun b o q n hb => by
    obtain ⟨sl, e1⟩ := base0.slot b o q n hb (by simp)
    obtain ⟨_, o', e2, hd⟩ := I.ok.funs.mem hb
    have q' : s₀.heap.get? b = some o' := e2
    rw [q] at q'
    cases q'
    obtain ⟨sl', e3⟩ := x4 b _ (hx.keeps _ _ e1) hd
    exact ⟨sl', e3⟩
  refine ⟨e, C, _, H, rfl, ⟨I.os, I.bare, ⟨fun b o q n hb hx' => ?_, fun b o q n hb _ => slot b o q n hb, base0.free, fun b o q hx' => ?_, base0.tups, base0.frzs, base0.tbls⟩, fun a o q => ?_, fun b o q n hb => ?_, fun b o q hb => ?_, ⟨_, x1⟩⟩, hE⟩
  · exact x1.1 b o (PySem.W.hideAll_get _ (base0.keep b o q n hb hx') (nin b o q hb))
  · by_cases hb : b ∈ frs outer
    · obtain ⟨sl, e1⟩ := slot b o q (I.ok.frf b hb) hb
      exact ⟨_, e1⟩
    · obtain ⟨o', e1⟩ := base0.there b o q hx'
      exact ⟨o', x1.1 _ _ (PySem.W.hideAll_get _ e1 (nin b o q hb))⟩
  · have nfr : ∀ b u, H b = some u → b ∉ frs (envOfC qual scope s₀.heap.objs.size f cd :: outer) := fun b u z hm => by
      have := I.stkFree b hm
      rw [z] at this
      cases this
    refine (I.hok a o q).stay (fun b u hb z => PySem.W.hideAll_get _ z ?_) (fun _ z => z) fun _ _ z => z
    rcases hb with rfl | hb
    · exact nfr _ _ q
    · exact nfr _ _ hb
  · exact PySem.W.hideAll_get _ (base0.keep b o q n hb (by simp)) (nin b o q hb)
  · obtain ⟨o', e1⟩ := base0.there b o q (by simp)
    exact ⟨o', PySem.W.hideAll_get _ e1 (nin b o q hb)⟩
/-- behind the exception, over the heap that a call began with -/
theorem Fly.over {X : Cx} {pins : List (Addr × Obj)} {σ : St} {H H' : Hp} {s s' : Shared} {ea C : Addr} {B h2 : Heap} (I : Inv X pins σ H s) (F : Fly X.prog X.w X.stack H H' s s' ea C B) (k1 : ∀ b o, B.get? b = some o → h2.get? b = some o) (k2 : s'.heap.UpToSlots h2) :
    Un (frs X.stack) [] H H' s.heap h2 := by
  have slot : ∀ b o, s.heap.get? b = some o → H b = none → b ∈ frs X.stack → ∃ sl, h2.get? b = some { o with slots := sl } := fun b o q n hb => by
    obtain ⟨sl, e1⟩ := F.un.slot b o q n hb (by simp)
    obtain ⟨_, o', e2, hd⟩ := I.stack.mem hb
    rw [q] at e2
    cases e2
    obtain ⟨sl', e3⟩ := k2 b _ e1 hd
    exact ⟨sl', e3⟩
  refine ⟨fun b o q n hb _ => k1 _ _ (F.inB b o q n hb), fun b o q n hb _ => slot b o q n hb, F.un.free, fun b o q _ => ?_, F.un.tups, F.un.frzs, F.un.tbls⟩
  by_cases hb : b ∈ frs X.stack
  · obtain ⟨sl, e1⟩ := slot b o q (I.stkFree b hb) hb
    exact ⟨_, e1⟩
  · obtain ⟨o', e1⟩ := F.ex b o q hb
    exact ⟨o', k1 _ _ e1⟩
end
end L2

namespace L2
open PySem PySem.Spec PyProof.Rows
/-! ### raise C(..), and try: f(..) except C as e: x = e -/
/-- the top's names are those that it has -/
theorem top_any {K : PySem.W.Frag} {mg : Str → Option Value} {base : Heap} (M : Mod K mg base) (p : Program) : ∃ loose mb, PySem.W.TopRead p loose mg mb base := by
  obtain ⟨mb, hb, hbb⟩ := M.blt
  obtain ⟨o, es, ep, ho, hd, hk, hf⟩ := id M.glob
  refine ⟨es.toList.filterMap fun e => match e.key with | .str x _ => some x | _ => none, mb, ⟨M.glob, hb, M.nolimit, hbb, fun x _ hx _ _ _ => ?_⟩⟩
  rw [← hf x]
  cases q : nsFind es x with
  | none => rfl
  | some v =>
    exfalso
    unfold nsFind findBy at q
    obtain ⟨e, he, _⟩ := Option.map_eq_some_iff.mp q
    have h1 := Array.mem_of_find?_eq_some he
    have h2 := Array.find?_some he
    obtain ⟨n, t, ek⟩ := hk e h1
    rw [ek] at h2
    have h3 : x = n := by
      simp only [Value.isStr] at h2
      exact (beq_iff_eq.mp h2).symm
    refine hx (List.mem_filterMap.mpr ⟨e, Array.mem_toList_iff.mpr h1, ?_⟩)
    rw [ek, h3]
/-- a class of one's own below ValueError that has no __init__ -/
structure Exc (K : PySem.W.Frag) (x : Str) (C : Addr) : Prop where
  ns : PySem.W.nsIn K mainGlobals x = some (some (.ref C))
  ex : PySem.W.excIn K C [.type "ValueError", .type "Exception", .type "BaseException", .type "object"] "ValueError.__new__" = true
section
variable {X : Cx} {x : Str} {C : Addr} {np cpos pos : Pos} {e : Expr} {es : List Expr} {t : TA} {EX : XK}
def tRaise (EX : XK) (C : Addr) (t : TA) : TS := fun _ σ H => t σ H fun vs H1 => vs.length ≤ sizeLine ∧ EX (.ref C) none H1
theorem ps_raise (O : Exc X.K x C) (hg : Gl X x) (hc : X.calm = true) (ha : PA X (e :: es) t)
    (hout : ∀ (pins : List (Addr × Obj)) (σ : St) (H : Hp) (s : Shared) (h' : Heap) (ea : Addr) (vs : List Value), Inv X pins σ H s → Heap.MadeExcOf s.heap h' ea (.ref C) vs → EX (.ref C) none H → X.xe (.ref ea) { s with heap := h' })
    (hdb : (x == ("__debug__" : Str)) = false := by decide) (he : starEach (e :: es) X.env = (false, eval e X.env) :: starEach es X.env := by rfl) (hpl : (backTo cpos (starEach es X.env)).any (·.1) = false := by rfl) :
    PS X (.Raise (some (.Call (.Name x np) (e :: es) [] cpos)) none pos) (tRaise EX C t) := by
  intro pins s σ H D I h
  obtain ⟨loose, mb, T⟩ := top_any I.ok.mod X.prog
  have W := PySem.W.own_of_in I.ok.mod.kin T O.ns O.ex
  obtain ⟨tl, N, nm, q, bs, hdct, sn, sub, ab, col, dd, k0, k1, k2, k3, k5, mN, hC, hN, hni, TL⟩ := W.obj
  refine wpAny_Raise_call_subT (nm := nm) (q := q) (N := N) (bs := bs) (hdct := hdct) (sn := sn) (sub := sub) (ab := ab) (col := col) (dd := dd) (k0 := k0) (k1 := k1) (k2 := k2) (k3 := k3) (k5 := k5) PySem.F.excBase_ValueError (mN := mN) (TL.hasType PySem.F.excBase_ValueError.hasBase) (I.ok.hd hc) (by rw [he]; show (false || (backTo cpos (starEach es X.env)).any (·.1)) = false; rw [hpl]; rfl) hni (ld_glob I hg W.bound ⟨rfl, ?_⟩ hdb)
  have h1 := ha cpos pins s σ H _ I h
  rw [he] at h1 ⊢
  refine Calls.evalArgs_plain (thn h1 fun us s1 ⟨vs, H1, I1, r, hz, q⟩ => ⟨rfl, by rw [← r.length]; exact hz, I1.bk _ _ hC, hN.keeps I1.bk, TL.keeps I1.bk, fun h' ea hm => hout pins σ H1 s1 h' ea us I1 hm q⟩)
end
/-! f-strings of two and three parts with one whole number -/
section
variable {X : Cx} {a b : Str} {e : Expr} {te : TE} {j1 j2 : Nat} {p1 p2 p3 pos : Pos}
def tFs (te : TE) : TE := fun σ H Q => te σ H fun v H1 => ∃ i : Int, v = .int i ∧ i.natAbs.log2 < 1920 ∧ ∀ x, Q (.str x) H1
theorem fs_len {out : Str} {i : Int} (h1 : out.length ≤ 1000) (h2 : i.natAbs.log2 < 1920) : (out ++ Str.ofString (toString i)).length ≤ 3000 := by
  rw [strLen_append, PySem.ofString_length]
  have := int_text_length_le (k := 1920) (by decide) h2
  omega
theorem small_line {n : Nat} (h : n ≤ 5000) : n ≤ sizeLine := Nat.le_trans h (by decide)
theorem empty_cat (a : Str) (h : a.length ≤ 1000) : (Str.empty ++ a).length ≤ 1000 := by
  rw [strLen_append]
  show 0 + a.length ≤ 1000
  omega
theorem pe_fs3 (he : PE X e te) (h1 : a.length ≤ 1000 := by decide) (h2 : b.length ≤ 1000 := by decide) : PE X (.JoinedStr [.Constant (.str a) j1 p1, .FormattedValue e (-1) none p2, .Constant (.str b) j2 p3] pos) (tFs te) := by
  intro pins s σ H Q I h
  have hz := empty_cat a h1
  refine JoinedStr_many (joinParts_cons (Calls.Constant_str ⟨small_line (by omega), ?_⟩))
  refine joinParts_cons (FormattedValue_plain (thn (he pins _ σ H _ (I.tok _) h) fun u s1 ⟨v, H1, I1, r, i, ev, hd, q⟩ => ?_))
  subst ev
  obtain ⟨tk, rfl⟩ := r
  have hz2 := fs_len hz hd
  refine formatField_int_small hd ⟨small_line (by omega), ?_⟩
  have hz3 : (Str.empty ++ a ++ Str.ofString (toString i) ++ b).length ≤ 4000 := by
    rw [strLen_append]
    omega
  exact joinParts_cons (Calls.Constant_str ⟨small_line (by omega), joinParts_nil ⟨.str _, H1, I1.tok _, ⟨_, rfl⟩, q _⟩ (small_line (by omega))⟩)
end
/-- THE RULE for a def that may raise -/
theorem Fun.ok1 {P : Program} {w : World} {K : PySem.W.Frag} {mg : Str → Option Value} {base : Heap} {x qual : Str} {st : Stmt} {f : Addr} {fd : FuncData} {N ps : List Str} {k : Nat} {sp : Sp} (F : Fun K x qual st f fd) (S : FnScope N ps (defScope st)) (len : ∀ vs H Q E, sp vs H Q E → vs.length = ps.length)
    (hbody : ∀ (cdv : Value) (A : Around) (outer : List Env) (s : Shared) (H : Hp) (vs : List V) (Q : VK) (E : XK), Room k (A.deeper (envOfC qual (defScope st) s.heap.objs.size f cdv)) → sp vs H Q E →
      ∃ t, PSs (cxOf (CX1 P w) P w K mg base N qual (defScope st) f cdv A outer s H E) (defBody st) t ∧ t { nx := fun _ H' => Q .non H', rt := Q } (start N vs) H) : FnOk P w K mg base (CX1 P w) (k + 1) f fd ps sp := by
  obtain ⟨oc, od, kV, doc, pm, an, cdv, ct, osl, rfl, lk, hcd⟩ := F.ex
  exact fn_of lk hcd S len fun A outer s H vs Q E hr hsp => hbody cdv A outer s H vs Q E hr hsp
end L2

namespace L2
open PySem PySem.Spec PyProof.Rows
/-- a caught exception: its class -/
def excO (ea C : Addr) : HO := .ext fun h => ∃ o vs, h.get? ea = some o ∧ o.cls = .ref C ∧ o.data = .fields vs
/-- within an except suite -/
abbrev Cx.within (X : Cx) (ea : Addr) : Cx := { X with A := X.A.mark (some (.ref ea)), calm := false, xe := fun _ _ => False }
section
variable {X : Cx} {pins : List (Addr × Obj)} {σ : St} {H : Hp} {s : Shared} {ea : Addr}
theorem Inv.inS (I : Inv X pins σ H s) (ea : Addr) : Inv (X.within ea) pins σ H s :=
  ⟨⟨I.ok.mod, I.ok.kind, I.ok.glob, I.ok.blt, I.ok.above, I.ok.inj, I.ok.has, I.ok.cab, (fun z => by cases z), I.ok.frames, I.ok.stk, I.ok.exf, I.ok.bs, I.ok.bsz, I.ok.noex, I.ok.exfs, I.ok.funs, I.ok.frf⟩, I.os, I.bare, I.base, I.loc, I.cell, I.free, I.freeC, I.pin, I.hok, I.len⟩
theorem Inv.outS (hd : X.calm = true → X.A.handled = none) (I : Inv (X.within ea) pins σ H s) : Inv X pins σ H s :=
  ⟨⟨I.ok.mod, I.ok.kind, I.ok.glob, I.ok.blt, I.ok.above, I.ok.inj, I.ok.has, I.ok.cab, hd, I.ok.frames, I.ok.stk, I.ok.exf, I.ok.bs, I.ok.bsz, I.ok.noex, I.ok.exfs, I.ok.funs, I.ok.frf⟩, I.os, I.bare, I.base, I.loc, I.cell, I.free, I.freeC, I.pin, I.hok, I.len⟩
/-- the name behind «as» goes -/
theorem Inv.goes {M : Model} {A : Around} {E : Value → Shared → Prop} {l : Nat} {n : Str} {pos : Pos} {Q : Unit → Shared → Prop} (I : Inv X pins σ H s) (hN : X.N.Nodup) (hi : X.N[l]? = some n) (hk : X.env.kindOf n = some .local)
    (h : ∀ s', Inv X pins (σ.set l none) H s' → Q () s') : wpAny M A (do bindName X.env n .none; unbindBehindTheSuite X.env n pos) Q E s := by
  obtain ⟨m, hn, hl⟩ := id I.loc
  have hcls : (X.env.scope.kind == .class || (X.env.scope.kind == .module && X.env.locals != X.env.globals)) = false := by rw [I.ok.kind]; rfl
  obtain ⟨oL, _, _, hoL, _⟩ := id hn
  refine wpAny_nameGoes_keeps hk hn hcls fun h' v hn' hs => h _ ?_
  have ne0 : ∀ b o, X.s₀.heap.get? b = some o → b ≠ X.env.locals := fun b o e => Nat.ne_of_lt (Nat.lt_of_lt_of_le (Heap.lt_size e) I.ok.above)
  have same : ∀ b o, b ≠ X.env.locals → s.heap.get? b = some o → h'.get? b = some o := fun b o ne e => (hs.2 b ne).trans e
  refine ⟨I.ok, I.os, I.bare, ⟨fun b o e n' hb hx => same b o (ne0 b o e) (I.base.keep b o e n' hb hx), fun b o e n' hb hx => ?_, I.base.free, fun b o e hx => ?_, I.base.tups, I.base.frzs, I.base.tbls⟩, ⟨_, hn', fun j y v' e1 e2 e3 => ?_⟩, fun y c e => ?_, I.free, I.freeC, fun p hp => ?_, fun b ob e => ?_, by simpa using I.len⟩
  · obtain ⟨sl, e1⟩ := I.base.slot b o e n' hb hx
    exact ⟨sl, same b _ (ne0 b o e) e1⟩
  · obtain ⟨o', e1⟩ := I.base.there b o e hx
    exact ⟨o', same b o' (ne0 b o e) e1⟩
  · have hj : j ≠ l := fun z => by
      subst z
      rw [List.getElem?_set] at e2
      simp at e2
    rw [List.getElem?_set_ne (Ne.symm hj)] at e2
    obtain ⟨u', r', q⟩ := hl j y v' e1 e2 e3
    refine ⟨u', r', ?_⟩
    rcases q with ⟨k, e⟩ | ⟨k, c, e, z⟩
    · refine .inl ⟨k, ?_⟩
      have : y ≠ n := fun e => hj (nodup_ix hN e1 (e ▸ hi))
      simp [this, e]
    · exact .inr ⟨k, c, e, z.sameBut hs (I.cne y c e)⟩
  · obtain ⟨w', z⟩ := I.cell y c e
    exact ⟨w', z.sameBut hs (I.cne y c e)⟩
  · obtain ⟨e, n', ne, nf, d⟩ := I.pin p hp
    exact ⟨same _ _ ne e, n', ne, nf, d⟩
  · refine (I.hok b ob e).stay (fun c w' hc q => same c w' ?_ q) (fun _ q => q) fun _ _ q => q
    rintro rfl
    rcases hc with rfl | hc
    · rw [I.free] at e; cases e
    · rw [I.free] at hc; cases hc
/-- where an exception has landed -/
theorem Fly.landed {H' : Hp} {s' : Shared} {C : Addr} {B h2 : Heap} (I : Inv X pins σ H s) (F : Fly X.prog X.w X.stack H H' s s' ea C B) {a0 : Value} (f : Heap.FlyingW B X.stack ea (.ref C) a0 h2) (k2 : s'.heap.UpToSlots h2) :
    Inv X pins σ (upd H' ea (excO ea C)) { s' with heap := h2 } := by
  have u := F.over I f.1 k2
  have hn := F.fresh
  obtain ⟨oe, vs, hoe, hoc, hod, _⟩ := f.first
  have nfr : ea ∉ frs X.stack := fun hm => by
    obtain ⟨_, o, ho, hd⟩ := f.2.2.1.mem hm
    rw [hoe] at ho
    cases ho
    exact hd vs hod
  have nes : ∀ b o, s.heap.get? b = some o → H b = none → b ≠ ea := fun b o e n z => by
    subst z
    have := F.inB b o e n nfr
    rw [f.2.1] at this
    cases this
  refine I.call' (ch := []) (s' := { s' with heap := h2 }) F.os ⟨u.keep, u.slot, fun b o e n hx => ?_, u.there, fun b xs e => ?_, fun b o xs e => ?_, fun b ps e => ?_⟩ (fun b ob e => ?_) F.bare fun b hb => absurd hb (by simp)
  · rw [upd_ne (nes b o e n)]
    exact u.free b o e n hx
  · have := u.tups b xs e
    rw [upd_ne (ne_of_none this hn)]
    exact this
  · have := u.frzs b o xs e
    rw [upd_ne (ne_of_none this hn)]
    exact this
  · obtain ⟨more, h3⟩ := u.tbls b ps e
    exact ⟨more, by rw [upd_ne (ne_of_none h3 hn)]; exact h3⟩
  · by_cases z : b = ea
    · subst z
      rw [upd_same] at e
      cases e
      exact ⟨⟨oe, vs, hoe, hoc, hod⟩, ⟨oe, hoe⟩, fun h1 h2' ⟨o, vs', h3, h4, h5⟩ k => ⟨o, vs', k o h3, h4, h5⟩⟩
    · rw [upd_ne z] at e
      exact ((F.hok.kept f.1) b ob e).stay (fun _ _ _ q => q) (fun c q => by rw [upd_ne (ne_of_none q hn)]; exact q) fun c xs q => by rw [upd_ne (ne_of_none q hn)]; exact q
end
/-- the body of a try -/
def PTry (X : Cx) (st : List Stmt) (t : (St → Hp → Prop) → (St → XK) → St → Hp → Prop) : Prop :=
  ∀ (pins : List (Addr × Obj)) (s : Shared) (σ : St) (H : Hp) (N : St → Hp → Prop) (E : St → XK), Inv X pins σ H s → t N E σ H →
    wpAny (model X.prog X.w) X.A (execs st X.env) (fun f s1 => f = .next ∧ ∃ σ' H', Inv X pins σ' H' s1 ∧ N σ' H') (fun e s' => ∃ σ' H1 s1, Inv X pins σ' H1 s1 ∧ CX1 X.prog X.w X.stack H1 s1 (E σ') e s') s
section
variable {X : Cx} {k : Nat} {f : Addr} {fd : FuncData} {ps : List Str} {sp : Sp} {x y : Str} {p yp ap pos : Pos} {e : Expr} {es : List Expr} {t : TA} {i : Nat}
theorem try_call (F : FnOk X.prog X.w X.K X.mg X.base (CX1 X.prog X.w) k f fd ps sp) (hr : Room k X.A) (hg : Gl X x) (hm : X.mg x = some (.ref f)) (hk : PySem.W.keepIn X.K (.ref f) = true) (hb : Binds X.K fd ps [])
    (ha : ∀ E', PA (X.wish E') (e :: es) t) (hdb : (x == ("__debug__" : Str)) = false) (he : starEach (e :: es) X.env = (false, eval e X.env) :: starEach es X.env) (hpl : (backTo pos (starEach es X.env)).any (·.1) = false)
    {pins : List (Addr × Obj)} {s : Shared} {σ : St} {H : Hp} {Q : VK} {E : XK} (I : Inv X pins σ H s) (h : t σ H fun vs H1 => sp vs H1 Q E) :
    wpAny (model X.prog X.w) X.A (eval (.Call (.Name x p) (e :: es) [] pos) X.env) (EP X pins σ Q) (fun e s' => ∃ σ' H1 s1, σ' = σ ∧ Inv X pins σ' H1 s1 ∧ CX1 X.prog X.w X.stack H1 s1 E e s') s := by
  refine wpAny_Call_Name_kw (ld_glob I hg hm ?_ hdb)
  refine PySem.W.callWith_K (h₀ := X.base) I.ok.mod.kin hk (thn (ha (fun e s' => ∃ σ' H1 s1, σ' = σ ∧ Inv X pins σ' H1 s1 ∧ CX1 X.prog X.w X.stack H1 s1 E e s') pos pins s σ H _ (I.wish _) h) fun us s1 ⟨vs, H1, I1, r, q⟩ => ⟨I1.unwish.kIn, ?_⟩) he hpl
  have I1 := I1.unwish
  have hl : (us ++ []).length = ps.length := by rw [List.append_nil, ← r.length]; exact F.len _ _ _ _ q
  have hb2 := hb s1 us I1.kIn hl
  rw [List.append_nil] at hb2
  refine wpAny_call (codeAny_mono (F.run X.A X.stack s1 H1 ⟨us, []⟩ us vs Q E hr I1.env0 hb2 r q) fun r s' hq => ?_)
  cases r with
  | error e => exact ⟨σ, H1, s1, rfl, I1, hq⟩
  | ok fl =>
    cases fl with
    | ret u => exact I1.after hq
    | next => exact False.elim hq
    | brk => exact False.elim hq
    | cont => exact False.elim hq
theorem pt_expr (F : FnOk X.prog X.w X.K X.mg X.base (CX1 X.prog X.w) k f fd ps sp) (hr : Room k X.A) (hg : Gl X x) (hm : X.mg x = some (.ref f)) (hk : PySem.W.keepIn X.K (.ref f) = true) (hb : Binds X.K fd ps [])
    (ha : ∀ E', PA (X.wish E') (e :: es) t) (hdb : (x == ("__debug__" : Str)) = false := by decide) (he : starEach (e :: es) X.env = (false, eval e X.env) :: starEach es X.env := by rfl) (hpl : (backTo pos (starEach es X.env)).any (·.1) = false := by rfl)
    (hs : swapsWith (.Call (.Name x p) (e :: es) [] pos) none ap.line X.env = pure false := by rfl) :
    PTry X [.Expr (.Call (.Name x p) (e :: es) [] pos) ap] (fun N E σ H => t σ H fun vs H1 => sp vs H1 (fun _ H2 => N σ H2) (E σ)) := by
  intro pins s σ H N E I h
  refine wpAny_execs_cons (wpAny_Expr_any (wpAny_mono (try_call F hr hg hm hk hb ha hdb he hpl I h) (fun v s1 ⟨z, H1, I1, r1, q1⟩ => ?_) fun e s' ⟨σ', H1, s1, e1, I1, q1⟩ => ?_) I.quiet hs)
  · exact wpAny_execs_nil ⟨rfl, _, H1, I1, q1⟩
  · subst e1
    exact ⟨_, H1, s1, I1, q1⟩
end
section
variable {X : Cx} {body : List Stmt} {tb : (St → Hp → Prop) → (St → XK) → St → Hp → Prop} {cx n z : Str} {c : Value} {cp np zp zp2 hp pos : Pos} {j l : Nat}
def tTryAs (K : PySem.W.Frag) (c : Value) (j l : Nat) (tb : (St → Hp → Prop) → (St → XK) → St → Hp → Prop) : TS := fun D σ H =>
  tb D.nx (fun σ' cls _ H2 => ∃ C, cls = .ref C ∧ PySem.W.exmOne K (.ref C) c = some true ∧ ∀ ea, H2 ea = none → D.nx (((σ'.set l (some (.ref ea))).set j (some (.ref ea))).set l none) (upd H2 ea (excO ea C))) σ H
theorem ps_tryAs (hb : PTry X body tb) (hg : Gl X cx) (hm : X.mg cx = some c) (hc : X.calm = true) (hst : X.stack = X.env :: X.outer) (hfr : X.env.frame = some X.env.locals) (hN : X.N.Nodup)
    (hl : X.N[l]? = some n) (hnl : X.env.scope.names.lookup n = some .local) (hj : X.N[j]? = some z) (hz : Loc X.env.scope z) (hdb : (cx == ("__debug__" : Str)) = false := by decide)
    (hdn : (n == ("__debug__" : Str)) = false := by decide) (hcn : (n == ("__classdict__" : Str)) = false := by decide)
    (hs : swapsWith (.Name n np) (some (.Name z zp)) zp2.line X.env = pure false := by rfl) (hf : X.fn z = true ∨ X.env.scope.names.lookup z = some .local := by first | exact .inl rfl | exact .inr rfl | assumption) :
    PS X (.Try body [.ExceptHandler (some (.Name cx cp)) (some n) [.Assign [.Name z zp] (.Name n np) zp2] hp] [] [] pos) (tTryAs X.K c j l tb) := by
  intro pins s σ H D I h
  refine wpAny_Try_except (wpAny_mono (hb pins s σ H _ _ I h) (fun f s1 q => ?_) fun e s1 q => ?_)
  · obtain ⟨rfl, σ', H', I', q⟩ := q
    exact wpAny_execs_nil ⟨σ', H', I', q⟩
  · obtain ⟨σ', H1, s2, I1, ea, C, B, H', rfl, F, C', ec, hex, q⟩ := q
    obtain rfl : C = C' := by injection ec
    obtain ⟨a0, fl⟩ := F.fly
    have hframes : X.A.frames = some (X.env :: X.outer) := by rw [← hst]; exact I1.ok.frames
    have fl' := fl
    rw [hst] at fl'
    refine wpAny_looks_onW hframes hfr fl' fun h4 held sm4 => ?_
    refine wpAny_landsW held fun h5 fl5 sm5 => ?_
    rw [← hst] at fl5
    have J5 := F.landed I1 fl5 (sm4.trans sm5)
    refine wpAny_handleBy_cons (codeAny_handlers_test ?_) (by intro q; cases q)
    refine Calls.Name_function_global J5.ok.kind hg (Calls.loadGlobal_global (by rw [J5.ok.glob]; exact J5.mod.glob.keeps J5.bk) hm ?_) hdb
    obtain ⟨ob, hob, hobc⟩ := fl5.there
    have LT : PySem.W.Looks (model X.prog X.w) h5 (typeOf (.ref ea)) (.ref C) := hobc ▸ (PySem.W.Looks.ld hob).andThen .now
    refine (PySem.W.exm_one J5.kIn LT hex).here ?_
    refine codeAny_handlers_suite_as ?_
    refine lands_againW fl5 fun h6 fl6 sm6 => ?_
    have J6 := F.landed I1 fl6 ((sm4.trans sm5).trans sm6)
    refine store_ok (v := .ref ea) J6 hN hl (.inl hnl) rfl (fun s7 J7 => ?_) (.inr hnl)
    have S := pss_one (ps_set (X := X.within ea) (i := j) (pos := zp2) (pos' := zp) hN hj hz (pe_var (X := X.within ea) (i := l) (pos := np) hl (.inl hnl) hdn hcn) hs hf)
    have hlen : l < σ'.length := by rw [J6.len]; exact (List.getElem?_eq_some_iff.mp hl).1
    refine wpAny_mono (S pins s7 _ _ { nx := fun σ2 H2 => σ2 = (σ'.set l (some (.ref ea))).set j (some (.ref ea)) ∧ H2 = upd H' ea (excO ea C), rt := fun _ _ => False } (J7.inS ea) ⟨.ref ea, List.getElem?_set_self hlen, rfl, rfl⟩) (fun f s8 q8 => ?_) fun _ _ z => z.elim
    cases f with
    | next =>
      obtain ⟨σ2, H2, J8, rfl, rfl⟩ := q8
      have J8 := J8.outS I.ok.hd
      refine J8.goes hN hl hnl fun s9 J9 => ⟨_, _, J9, q ea F.fresh⟩
    | ret v => obtain ⟨_, _, _, _, _, z⟩ := q8; exact z.elim
    | brk => obtain ⟨_, _, _, z⟩ := q8; exact z.elim
    | cont => obtain ⟨_, _, _, z⟩ := q8; exact z.elim
end
end L2

namespace L2
open PySem PySem.Spec PyProof.Rows
/-! ### isinstance of a caught exception -/
/-- what the part that is written tells of such a class -/
structure ExcI (K : PySem.W.Frag) (C : Addr) : Prop where
  ga : PySem.W.findIn K (.ref C) "__getattribute__" = some (some (.builtin "BaseException.__getattribute__"))
  gh : PySem.W.findIn K (.ref C) "__getattr__" = some none
  sb : PySem.W.subIn K (.ref C) (.type "BaseException") = some true
  hd : PySem.W.hasDictIn K C = true
  at_ : PySem.W.findIn K (.ref C) "__class__" = some (some (.builtin "object.__class__"))
  gt : PySem.W.specialIn K (.builtin "object.__class__") "__get__" = some (some (.builtin "getset_descriptor.__get__"))
  tk : PySem.W.takesIn K (.builtin "object.__class__") = some true
  mr : PySem.W.mroIn K C (.type "object") = some true
theorem ExcI.cls {K : PySem.W.Frag} {C : Addr} (e : ExcI K C) : ∃ oc od cd sl, K.lookup C = some ⟨oc, od, .cls cd, sl⟩ := by
  obtain ⟨cd, h, _⟩ := PySem.W.any_some e.hd
  revert h
  unfold PySem.W.clsIn
  cases q : K.lookup C with
  | none => intro h; cases h
  | some o =>
    obtain ⟨oc, od, dt, sl⟩ := o
    cases dt with
    | cls c => exact fun _ => ⟨_, _, _, _, rfl⟩
    | _ => intro h; cases h
section
open PySem.W PySem.Calls PySem.Builtin PySem.Builtin.ObjectAttr PySem.Builtin.Getset_descriptor
variable {K : PySem.W.Frag} {prog : Program} {w : World} {A : Around} {E : Value → Shared → Prop} {s : Shared} {ea C : Addr}
/-- its class is found on the class alone: the exception's own dict is never read. (The library tells this of instances whose dict is known; the classes' facts it tells by name are used here.) -/
theorem exc_find {M : Model} {h : Heap} (e : ExcI K C) (X : K.In h) : Looks M h (find (.ref ea) (.ref C) "__class__") (.bind (.builtin "getset_descriptor.__get__") (.builtin "object.__class__")) := by
  unfold find
  exact (looks_findIn X e.at_).andThen (Looks.andThen (looks_specialIn X e.gt) (Looks.andThen ((looks_takesIn X e.tk).andThen .now) (Looks.tag .now)))
/-- an exception's own way to its names passes its test -/
theorem exc_check {nameV : Value} {Q : Unit → Shared → Prop} (e : ExcI K C) (X : K.In s.heap) (known : Looks (model prog w) s.heap (typeOf (.ref ea)) (.ref C)) (h : Q () s) :
    wpAny (model prog w) A (checkBuiltinCall "BaseException.__getattribute__" ⟨[.ref ea, nameV], []⟩) Q E s := by
  obtain ⟨H0, g0, d0, t0, o0⟩ := s
  have kind : builtinKind "BaseException.__getattribute__" = some .slot := by decide +kernel
  have cut : splitId "BaseException.__getattribute__" = some ("BaseException", "__getattribute__") := by decide +kernel
  have fit := F.args_bexc_ga (.ref ea) nameV
  simp only [checkBuiltinCall, kind, cut]
  apply wpAny_bind
  apply wpAny_bind
  refine known.at ((looks_subIn X e.sb).at ?_)
  simp only [Bool.not_true, Bool.false_eq_true, if_false]
  repeat (any_goals (first | assumption | wp_step))
theorem exc_class {Q : Option Value → Shared → Prop} (e : ExcI K C) (X : K.In s.heap) (hT : ∃ o, s.heap.get? ea = some o ∧ o.cls = .ref C) (h : Q (some (.ref C)) { s with toks := s.toks + 1 }) :
    wpAny (model prog w) A (getAttr? (.ref ea) "__class__") Q E s := by
  obtain ⟨H0, g0, d0, t0, o0⟩ := s
  obtain ⟨ob, hob, hcl⟩ := hT
  have known : Looks (model prog w) H0 (typeOf (.ref ea)) (.ref C) := hcl ▸ (Looks.ld hob).andThen .now
  have self := looks_mroIn (M := model prog w) X e.mr
  have told : ∀ {A' : Around} {R : Result → Shared → Prop}, R (.ok (.ret (.ref C))) ⟨H0, g0, d0, t0 + 1, o0⟩ → codeAny (model prog w) A' (.call (.builtin "getset_descriptor.__get__") ⟨[.builtin "object.__class__", .ref ea, .ref C], []⟩) R ⟨H0, g0, d0, t0 + 1, o0⟩ := fun {A' R} hR =>
    codeAny_call_builtin KF.slot_gs.plain KF.entry_gs <| KF.slot_gs.check _ _ _ _ _ _ _ _ KF.type_class (KF.args_gs _ _ _) <| by
      unfold Builtin.«getset_descriptor.__get__» descrGet descrGetter descrCheckInstance descrNameAndClass isInstance
      rw [dga_obj]
      apply wpAny_bind
      apply wpAny_pure
      simp only [KF.owner_class]
      repeat lk
      constructor
      · exact Code.quiet_builtin _ (by decide +kernel)
      · apply codeAny_builtin KF.entry_class
        unfold Builtin.«object.__class__» shownTypeOf
        repeat lk
        assumption
  have other : (onTheHeap (Value.ref C) && Value.builtin "BaseException.__getattribute__" == Value.builtin "object.__getattribute__") = false := by
    rw [show (Value.builtin "BaseException.__getattribute__" == Value.builtin "object.__getattribute__") = false from by decide +kernel, Bool.and_false]
  unfold getAttr? getAttrBy? getAttrBy
  apply wpAny_bind
  apply wpAny_mkText
  apply wpAny_bind
  apply wpAny_attempt
  apply wpAny_holding
  apply wpAny_bind
  refine known.at (wpAny_bind ((looks_findIn X e.ga).at ?_))
  simp only [other, Bool.false_eq_true, if_false]
  unfold getAttrByItsOwn hookBefore
  rw [if_pos (show onTheHeap (Value.ref C) = true from rfl)]
  apply wpAny_bind
  refine (looks_findIn X e.gh).at ?_
  apply wpAny_bind
  apply wpAny_attempt
  apply wpAny_holding
  unfold callGetattribute boundAndCalled
  simp only [Bool.false_and, Bool.false_eq_true, if_false]
  rw [F.excAttr_ValueError.ga.bind (.ref ea)]
  apply wpAny_bind
  apply wpAny_pure
  refine wpAny_call (codeAny_call_builtin F.excAttr_ValueError.ga.plain F.entry_bexc_ga (exc_check (s := ⟨H0, g0, d0, t0 + 1, o0⟩) e X known ?_))
  have found := exc_find (M := model prog w) (ea := ea) e X
  unfold Builtin.«object.__getattribute__»
  repeat (first | (with_reducible refine wpAny_call (told ?_)) | assumption | lk | wp_step)
def ExcT (ea C : Addr) (h : Heap) : Prop := ∃ o, h.get? ea = some o ∧ o.cls = .ref C
theorem kitx_exc (e : ExcI K C) : PySem.W.KitX K (.ref ea) (.ref C) (ExcT ea C) where
  ty := fun _ _ _ ⟨_, h1, h2⟩ => h2 ▸ (Looks.ld h1).andThen .now
  it := fun _ _ X _ => by
    obtain ⟨oc, od, cd, sl, hl⟩ := e.cls
    intro _ _ _ _ k q
    unfold isType loadHead
    apply wpAny_bind
    exact wpAny_loadPart (k _ _ (X _ _ hl)) (wpAny_pure q)
  ne := fun h tp dd its n sl X htp => by
    obtain ⟨oc, od, cd, sl', hl⟩ := e.cls
    cases z : (Value.ref C == Value.ref tp) with
    | false => rfl
    | true =>
      cases Value.ref.inj (beq_iff_eq.mp z)
      have := X _ _ hl
      rw [htp] at this
      cases this
  ca := fun X p k => exc_class e X p k
end
/-- isinstance(e, T), e a caught exception -/
theorem call_isE {X : Cx} {K : PySem.W.Frag} (hK : X.K = K) : CallR X (.builtin "isinstance") (fun vs H Q => ∃ ea C c b, vs = [.ref ea, c] ∧ H ea = some (excO ea C) ∧ ExcI K C ∧ (∀ u, RelV c u → PySem.W.kitOne K (.ref C) u = some b) ∧ Q (.bl b) H) := by
  subst hK
  intro pins s σ H xs us Q I r h
  obtain ⟨ea, C, c, b, rfl, he, i, hk, q⟩ := h
  obtain ⟨u, v, rfl, rx, ry⟩ := vals2 r
  cases rx
  obtain ⟨⟨o, vs, h1, h2, _⟩, _⟩ := I.hok ea _ he
  exact PySem.W.kia_one (kitx_exc i) I.kIn ⟨o, h1, h2⟩ (hk v ry) (by intro z; cases z) fun tk => ⟨.bl b, H, I.tok tk, rfl, q⟩
end L2

namespace L2
open PySem PySem.Spec PyProof.Rows
/-! ### parts by the cover: lefts as they are first met, what stands with each -/
/-- rules of one column each, none told twice -/
structure Ones (c : List RD) : Prop where
  one : ∀ r ∈ c, ∃ k, r.2.2 = 2 ^ k ∧ r.2.1 &&& r.2.2 = 0
  st : ∀ r ∈ c, r.1 = true
  nd : c.Nodup
theorem Ones.init {c : List RD} {r : RD} (h : Ones (c ++ [r])) : Ones c := ⟨fun q hq => h.one q (List.mem_append_left _ hq), fun q hq => h.st q (List.mem_append_left _ hq), (List.nodup_append.mp h.nd).1⟩
/-! ### a key more, and those within others left out -/
def inB (p : Nat) (l : List Nat) : Bool := l.any fun q => decide (p &&& q = p)
/-! ### what the defs promise -/
end L2

namespace L2
open PySem PySem.Spec PyProof.Rows
/-- a def that may raise, called where it does not -/
theorem FnOk.calm {P : Program} {w : World} {K : PySem.W.Frag} {mg : Str → Option Value} {base : Heap} {k : Nat} {f : Addr} {fd : FuncData} {ps : List Str} {sp : Sp} (F : FnOk P w K mg base (CX1 P w) k f fd ps sp) :
    FnOk P w K mg base CX0 k f fd ps (fun vs H Q _ => sp vs H Q fun _ _ _ => False) :=
  ⟨fun vs H Q _ h => F.len vs H Q _ h, fun A outer s H args us vs Q E hr he hb hv hs => codeAny_mono (F.run A outer s H args us vs Q _ hr he hb hv hs) fun r s' h => by
    cases r with
    | error e =>
      obtain ⟨_, _, _, _, _, _, z⟩ := (show CX1 P w outer H s (fun _ _ _ => False) e s' from h)
      exact z.elim
    | ok fl =>
      cases fl with
      | ret u => exact h
      | next => exact h
      | brk => exact h
      | cont => exact h⟩
end L2

namespace L2
open PySem PySem.Spec PyProof.Rows
/-! ### a comprehension whose one name is a cell of its own (a comprehension within it captures the name) -/
structure CScope1 (X : Cx) (x0 : Str) (sc : Scope) : Prop where
  kind : sc.kind = .function
  own : sc.names.lookup x0 = some .cell
  only : ∀ y ∈ sc.names, y.2 = .cell → y.1 = x0
  names : ∀ y ∈ sc.names, y.2 = .local → sc.names.lookup y.1 = some .local
  sep : ∀ y ∈ X.N, sc.names.lookup y ≠ some .local
  frees : ∀ y ∈ sc.names, y.2 = .free → X.env.kindOf y.1 = some .cell ∨ X.env.kindOf y.1 = some .free
  laid : ∀ a cl, cellsFrom a sc.names cl = (x0, a) :: cl
  push : ∀ h, pushCells h sc.names = h.push { cls := .type "cell", data := .cell none }
  nd : (x0 :: X.N).Nodup
abbrev newEnv1E (sc : Scope) (C : Addr) (globals : Addr) (cells : List (Str × Addr)) (env : Env) : Env := { scope := sc, locals := C, globals := globals, cells := cells, qual := env.qual, func := none, code := env.code, frame := env.frame, builtins := env.builtins }
theorem newEnv1 {M : Model} {A : Around} {E : Value → Shared → Prop} {s : Shared} {sc : Scope} {globals : Addr} {cl : List (Str × Addr)} {x0 : Str} {env : Env} {Q : Env → Shared → Prop}
    (laid : ∀ a cl, cellsFrom a sc.names cl = (x0, a) :: cl) (push : ∀ h, pushCells h sc.names = h.push { cls := .type "cell", data := .cell none })
    (hQ : Q (newEnv1E sc s.heap.objs.size globals ((x0, s.heap.objs.size + 1) :: cl) env) { s with heap := (s.heap.push { cls := .type "dict", data := .dict #[] }).push { cls := .type "cell", data := .cell none } }) :
    wpAny M A (newFunctionEnv sc globals cl [] env.qual none .none (some env)) Q E s := by
  simp only [newFunctionEnv, Option.isSome_some, if_true]
  apply wpAny_bind
  apply wpAny_alloc
  apply wpAny_bind
  refine wpAny_layCells _ (fun name kind cells => by cases hkc : kind == NameKind.cell <;> simp [hkc]) _ _ _ _ ?_
  rw [laid, push]
  apply wpAny_bind
  rw [List.forIn_nil]
  apply wpAny_pure
  apply wpAny_pure
  rw [show ({ s with heap := s.heap.push { cls := .type "dict", data := .dict #[] } } : Shared).heap.objs.size = s.heap.objs.size + 1 from Heap.size_push ..]
  exact hQ
def cxD (X : Cx) (x0 : Str) (sc : Scope) (ex : List Addr) (s : Shared) (H : Hp) : Cx where
  prog := X.prog
  w := X.w
  K := X.K
  mg := X.mg
  base := X.base
  A := X.A
  N := x0 :: X.N
  s₀ := s
  H₀ := H
  env := compEnvC sc ((x0, s.heap.objs.size + 1) :: clF X.env.cells sc.names []) s.heap.objs.size X.env
  outer := X.stack
  stack := X.stack
  ex := ex
  fn := fun y => y == x0
  calm := X.calm
  pn := []
  xe := fun _ _ => False
theorem lookup1 {x0 x : Str} {a c : Addr} {cells : List (Str × Addr)} {names : List (Str × NameKind)} (h : ((x0, a) :: clF cells names []).lookup x = some c) : c = a ∨ cells.lookup x = some c := by
  rw [List.lookup_cons] at h
  cases e : x == x0 with
  | true => rw [e] at h; exact .inl (Option.some.inj h).symm
  | false => rw [e] at h; exact .inr (clF_lookup h).1
theorem lookup2 {x0 x : Str} {a c : Addr} {cells : List (Str × Addr)} {names : List (Str × NameKind)} (h : ((x0, a) :: clF cells names []).lookup x = some c) : (x = x0 ∧ c = a) ∨ (x ≠ x0 ∧ (clF cells names []).lookup x = some c) := by
  rw [List.lookup_cons] at h
  cases e : x == x0 with
  | true => rw [e] at h; exact .inl ⟨by simpa using e, (Option.some.inj h).symm⟩
  | false => rw [e] at h; exact .inr ⟨by simpa using e, h⟩
theorem lookup3 {x0 x : Str} {a c : Addr} {cl : List (Str × Addr)} (ne : x ≠ x0) (h : cl.lookup x = some c) : ((x0, a) :: cl).lookup x = some c := by
  rw [List.lookup_cons]
  have e : (x == x0) = false := by simpa using ne
  rw [e]; exact h
section
variable {X : Cx} {pins : List (Addr × Obj)} {σ : St} {H : Hp} {s : Shared} {x0 : Str} {sc : Scope} {ex : List Addr}
/-- a name of the block around, seen in the comprehension, is a free one -/
theorem vis_relabel1 {x : Str} (S : CScope1 X x0 sc) (h : Vis (relabel sc X.env) x) (hl : sc.names.lookup x ≠ some .local) (ne : x ≠ x0) :
    (x, NameKind.free) ∈ sc.names ∧ ((relabel sc X.env).names.lookup x = some .cell ∨ (relabel sc X.env).names.lookup x = some .free) := by
  have e : (relabel sc X.env).names.lookup x = _ := lookup_relabel X.env x sc.names
  unfold Vis at h
  rw [e] at h
  cases k : sc.names.lookup x with
  | none => rw [k] at h; simp at h
  | some v =>
    have mem := PySem.mem_of_lookup k
    have nl : v ≠ .local := fun z => hl (by rw [k, z])
    have ncl : v ≠ .cell := fun z => ne (S.only _ mem z)
    rw [k] at h
    rw [e, k]
    simp only [Option.map_some] at h ⊢
    by_cases hv : v = .free
    · subst hv
      refine ⟨mem, ?_⟩
      split
      · exact .inl rfl
      · exact .inr rfl
    · have : (v == NameKind.free) = false := by simpa using hv
      simp only [this, Bool.false_and] at h
      rcases h with h | h | h
      · exact absurd (Option.some.inj h) nl
      · exact absurd (Option.some.inj h) ncl
      · exact absurd (Option.some.inj h) hv
theorem CScope1.cells (S : CScope1 X x0 sc) (ok : X.Ok) : ∀ n, (n, NameKind.free) ∈ sc.names → ∃ c, X.env.cells.lookup n = some c := fun n h => ok.has n (S.frees _ h rfl)
theorem cxD_ok (S : CScope1 X x0 sc) (I : Inv X pins σ H s) (he : ∀ b ∈ ex, b < s.heap.objs.size ∧ b ∉ frs X.stack ∧ (∀ x c, X.env.cells.lookup x = some c → c ≠ b) ∧ X.base.get? b = none) : (cxD X x0 sc ex s H).Ok := by
  have lt : ∀ x c, X.env.cells.lookup x = some c → c < s.heap.objs.size := fun x c e => by
    obtain ⟨v, q⟩ := I.cell x c e
    exact q.lt
  refine ⟨I.ok.mod, S.kind, I.ok.glob, I.ok.blt, Nat.le_refl _, fun x y c h1 h2 => ?_, fun x hx => ?_, fun x c h e => ?_, I.ok.hd, I.ok.frames, .inl rfl, fun b hb => ⟨Nat.ne_of_lt (he b hb).1, fun x c h => ?_⟩, fun b o e => ?_, ?_, fun b o e hb => ?_, fun b hb => (he b hb).2.1, I.stack, I.stkFree⟩
  · rcases lookup2 h1 with ⟨z1, z2⟩ | ⟨z1, z2⟩
    · rcases lookup2 h2 with ⟨w1, _⟩ | ⟨_, w2⟩
      · rw [z1, w1]
      · have h := lt _ _ (clF_lookup w2).1
        rw [z2] at h
        exact absurd (Nat.lt_trans h (Nat.lt_succ_self _)) (Nat.lt_irrefl _)
    · rcases lookup2 h2 with ⟨_, w2⟩ | ⟨_, w2⟩
      · have h := lt _ _ (clF_lookup z2).1
        rw [w2] at h
        exact absurd (Nat.lt_trans h (Nat.lt_succ_self _)) (Nat.lt_irrefl _)
      · exact I.ok.inj x y c (clF_lookup z2).1 (clF_lookup w2).1
  · by_cases ne : x = x0
    · subst ne
      exact ⟨s.heap.objs.size + 1, by show ((x, s.heap.objs.size + 1) :: _).lookup x = _; rw [List.lookup_cons, beq_self_eq_true]⟩
    have hv : (relabel sc X.env).names.lookup x = some .cell ∨ (relabel sc X.env).names.lookup x = some .free := hx
    have q : (x, NameKind.free) ∈ sc.names := by
      have e : (relabel sc X.env).names.lookup x = _ := lookup_relabel X.env x sc.names
      rw [e] at hv
      cases k : sc.names.lookup x with
      | none => rw [k] at hv; simp at hv
      | some v =>
        have mem := PySem.mem_of_lookup k
        rw [k] at hv
        simp only [Option.map_some] at hv
        by_cases hvf : v = .free
        · rw [hvf] at mem; exact mem
        · have : (v == NameKind.free) = false := by simpa using hvf
          simp only [this, Bool.false_and] at hv
          rcases hv with h | h
          · exact absurd (S.only _ mem (Option.some.inj h)) ne
          · exact absurd (Option.some.inj h) hvf
    obtain ⟨c, e⟩ := S.cells I.ok x q
    obtain ⟨d, hd⟩ := lookup_isSome_of_mem (clF_has sc.names [] x c q e)
    exact ⟨d, lookup3 ne hd⟩
  · rcases lookup2 e with ⟨_, z⟩ | ⟨ne, _⟩
    · rw [z]; exact Nat.le_succ _
    · exact absurd (by simpa using (show (x == x0) = true from h)) ne
  · rcases lookup1 h with z | z
    · intro e
      have h' := (he b hb).1
      rw [← e, z] at h'
      exact absurd (Nat.lt_trans h' (Nat.lt_succ_self _)) (Nat.lt_irrefl _)
    · exact (he b hb).2.2.1 x c z
  · exact I.bs b o e
  · exact Nat.le_trans I.ok.bsz I.sz
  · have q : X.base.get? b = none := (he b hb).2.2.2
    have e' : X.base.get? b = some o := e
    rw [q] at e'; cases e'
theorem inv_comp1 {h₁ : Heap} {tk : Nat} (S : CScope1 X x0 sc) (I : Inv X pins σ H s) (he : ∀ b ∈ ex, b < s.heap.objs.size ∧ b ∉ frs X.stack ∧ (∀ x c, X.env.cells.lookup x = some c → c ≠ b) ∧ X.base.get? b = none)
    (hn : h₁.Ns s.heap.objs.size (fun _ => none)) (hc : h₁.IsCell (s.heap.objs.size + 1) none) (hk : ∀ b o, s.heap.get? b = some o → h₁.get? b = some o) :
    Inv (cxD X x0 sc ex s H) [] (none :: σ) H { s with heap := h₁, toks := tk } := by
  have I1 : Inv X pins σ H { s with heap := h₁, toks := tk } := I.kept hk
  refine ⟨cxD_ok S I he, rfl, I.bare, Un.kept hk, ⟨_, hn, fun i x v h1 h2 h3 => ?_⟩, fun x c h => ?_, I.hok.fresh (Nat.le_refl _), fun x c h => ?_, fun p hp => absurd (show p ∈ ([] : List (Addr × Obj)) from hp) (by simp), I.hok.kept hk, ?_⟩
  · cases i with
    | zero => cases h2
    | succ i =>
      have h1' : X.N[i]? = some x := h1
      have h2' : σ[i]? = some (some v) := h2
      have hm : x ∈ X.N := List.mem_of_getElem? h1'
      have ne : x ≠ x0 := fun z => (List.nodup_cons.mp S.nd).1 (by rw [← z]; exact hm)
      obtain ⟨hf, hkd⟩ := vis_relabel1 S h3 (S.sep x hm) ne
      have hko := S.frees _ hf rfl
      obtain ⟨m, _, hl⟩ := I1.loc
      obtain ⟨u, r, l⟩ := hl i x v h1' h2' (by
        rcases hko with z | z
        · exact .inr (.inl z)
        · exact .inr (.inr z))
      refine ⟨u, r, .inr ⟨hkd, ?_⟩⟩
      rcases l with ⟨z, _⟩ | ⟨_, c, ec, hc'⟩
      · rcases hko with q | q <;> (rw [q] at z; cases z)
      · obtain ⟨d, ed⟩ := lookup_isSome_of_mem (clF_has sc.names [] x c hf ec)
        have : c = d := by
          have := (clF_lookup ed).1
          rw [ec] at this
          exact Option.some.inj this
        subst this
        exact ⟨c, lookup3 ne ed, hc'⟩
  · rcases lookup1 h with z | z
    · rw [z]; exact ⟨none, hc⟩
    · exact I1.cell x c z
  · rcases lookup1 h with z | z
    · rw [z]; exact I.hok.fresh (Nat.le_succ _)
    · exact I.freeC x c z
  · show (none :: σ).length = (x0 :: X.N).length
    rw [List.length_cons, List.length_cons, I.len]
end
section
variable {X : Cx} {pins : List (Addr × Obj)} {σ : St} {H : Hp} {s2 : Shared} {tg iter elt : Expr} {ifs : List Expr} {sc : Scope} {pos : Pos} {x0 : Str} {g : TG} {tc : TT} {te : TE} {J : It} {fp : List Addr} {it : Addr} {tn : Nat → Heap → Prop}
theorem comp_core1 {E : Value → Shared → Prop} {RR : Value → Addr → Result → Shared → Prop} (S : CScope1 X x0 sc) (hcalm : X.calm = true)
    (hg : ∀ ex s3 H3, PG (cxD X x0 sc ex s3 H3) tg g) (ht : ∀ ex s3 H3, PTs (cxD X x0 sc ex s3 H3) ifs tc) (he : ∀ ex s3 H3, PE (cxD X x0 sc ex s3 H3) elt te)
    (I : Inv X pins σ H s2) (T : Turn X.prog X.w X.K tg J fp it tn) (st : tn 0 s2.heap) (f2 : ∀ b ∈ fp, FpOk X pins H b)
    (W : Nat → Nat → List V → Hp → Prop) (w0 : ∃ m, W 0 m [] H) (F : List V → Hp → Prop)
    (turn : ∀ i m acc H, W i m acc H → (J.stop i H ∧ acc.length ≤ sizeLine ∧ F acc H) ∨
      (J.go i H ∧ acc.length < sizeLine ∧ ∃ N : List V → Hp → Prop, (∀ acc' H', N acc' H' → ∃ m', m' < m ∧ W (i + 1) m' acc' H') ∧ ∀ x H', J.yld i H x H' → g x (none :: σ) H' fun σ2 H2 => σ2.drop 1 = σ ∧ tc σ2 H2 fun c H3 =>
        if c = true then te σ2 H3 fun y H4 => N (acc ++ [y]) H4 else N acc H3))
    (fin : ∀ D C s' acc H', (∃ m, s'.heap.Ns C m) → FpOk X pins (upd H' D (.lst acc)) C → F acc H' → H' D = none → Inv X pins σ (upd H' D (.lst acc)) s' → RR (.ref D) C (.ok .next) s') :
    wpAny (model X.prog X.w) X.A (newList []) (fun acc s3 => wpAny (model X.prog X.w) X.A (newFunctionEnv sc X.env.globals (clF X.env.cells sc.names []) [] X.env.qual none .none (some X.env)) (fun cenv s4 =>
      codeAny (model X.prog X.w) X.A (.compStart (.ListComp elt [⟨tg, iter, ifs, 0⟩] sc pos) 0 (.ref it) acc { cenv with scope := relabel sc X.env }) (RR acc cenv.locals) s4) E s3) E s2 := by
  refine wpAny_newObj_type (newEnv1 S.laid S.push ?_)
  dsimp only
  generalize hH3 : s2.heap.push { cls := .type "list", dict := none, data := .seq ([] : List Value).toArray } = H3
  obtain ⟨h₁, hh₁⟩ : ∃ h₁, h₁ = (H3.push { cls := .type "dict", data := .dict #[] }).push { cls := .type "cell", data := .cell none } := ⟨_, rfl⟩
  rw [← hh₁]
  have hns₁ : h₁.Ns H3.objs.size (fun _ => none) := by rw [hh₁]; exact (Heap.Ns.new H3 _).push _
  have hcl₁ : h₁.IsCell (H3.objs.size + 1) none := by
    rw [hh₁]
    refine ⟨{ cls := .type "cell", data := .cell none }, ?_, rfl⟩
    have e : ((H3.push { cls := .type "dict", data := .dict #[] }).push { cls := .type "cell", data := .cell none }).get? (H3.push { cls := .type "dict", data := .dict #[] }).objs.size = some { cls := .type "cell", data := .cell none } := Heap.get?_push_size _ rfl
    rw [Heap.size_push] at e
    exact e
  have hC : H3.objs.size = s2.heap.objs.size + 1 := by rw [← hH3, Heap.size_push]
  have hDC : s2.heap.objs.size ≠ H3.objs.size := by rw [hC]; exact Nat.ne_of_lt (Nat.lt_succ_self _)
  have old3 : ∀ b o, s2.heap.get? b = some o → H3.get? b = some o := fun b o e => hH3 ▸ Heap.get?_push_of_some _ e
  have k1 : ∀ b o, H3.get? b = some o → h₁.get? b = some o := fun b o e => by rw [hh₁]; exact Heap.get?_push_of_some _ (Heap.get?_push_of_some _ e)
  have I3 : Inv X pins σ H { s2 with heap := H3 } := I.kept old3
  have fpLt : ∀ b ∈ fp, b < s2.heap.objs.size := fun b hb => by
    obtain ⟨o, e, _⟩ := T.obj _ _ st b hb
    exact Heap.lt_size e
  have hnofr : ∀ b, s2.heap.objs.size ≤ b → b ∉ frs X.stack := fun b hb z => by
    rcases List.mem_cons.mp (I.stkSub b z) with q | q
    · exact absurd (Nat.lt_of_lt_of_le I.lt hb) (by rw [q]; exact Nat.lt_irrefl _)
    · exact I.nofs hb q
  have hnocell : ∀ b, s2.heap.objs.size ≤ b → ∀ x c, X.env.cells.lookup x = some c → c ≠ b := fun b hb x c e z => by
    obtain ⟨v, q⟩ := I.cell x c e
    exact absurd (Nat.lt_of_lt_of_le q.lt (by rw [z]; exact hb)) (Nat.lt_irrefl _)
  have hnobase : ∀ b, s2.heap.objs.size ≤ b → X.base.get? b = none := fun b hb => Heap.get?_none_of_le (Nat.le_trans (Nat.le_trans I.ok.bsz I.sz) hb)
  have fpfr : ∀ b ∈ fp, b ∉ frs X.stack := fun b hb z => by
    rcases List.mem_cons.mp (I.stkSub b z) with q | q
    · exact (f2 b hb).2.1 q
    · exact (f2 b hb).2.2.1 q
  have fpbase : ∀ b ∈ fp, X.base.get? b = none := fun b hb => by
    rcases (f2 b hb).2.2.2.1 with z | z
    · cases e : X.base.get? b with
      | none => rfl
      | some o => exact absurd z (I.ok.noex b o e)
    · exact Heap.get?_none_of_le (Nat.le_trans I.ok.bsz z)
  have hex : ∀ b ∈ (s2.heap.objs.size :: fp), b < H3.objs.size ∧ b ∉ frs X.stack ∧ (∀ x c, X.env.cells.lookup x = some c → c ≠ b) ∧ X.base.get? b = none := fun b hb => by
    rcases List.mem_cons.mp hb with z | z
    · subst z
      exact ⟨by rw [hC]; exact Nat.lt_succ_self _, hnofr _ (Nat.le_refl _), hnocell _ (Nat.le_refl _), hnobase _ (Nat.le_refl _)⟩
    · exact ⟨by rw [hC]; exact Nat.lt_succ_of_lt (fpLt b z), fpfr b z, (f2 b z).2.2.2.2.1, fpbase b z⟩
  have I4 := inv_comp1 (ex := s2.heap.objs.size :: fp) (tk := s2.toks) S I3 hex hns₁ hcl₁ k1
  generalize hX' : cxD X x0 sc (s2.heap.objs.size :: fp) { s2 with heap := H3 } H = X' at I4
  have hDn : H s2.heap.objs.size = none := I.hok.fresh (Nat.le_refl _)
  have hDobj : h₁.get? s2.heap.objs.size = some { cls := .type "list", data := .seq (([] : List Value)).toArray 0 } := k1 _ _ (hH3 ▸ Heap.get?_push_size _ rfl)
  have st1 : tn 0 h₁ := T.keep _ _ _ st fun b _ o e => k1 b o (old3 b o e)
  obtain ⟨m0, w0⟩ := w0
  -- the block's facts about D and the iterator, whatever the state
  have eXex : X'.ex = s2.heap.objs.size :: fp := by rw [← hX']; rfl
  have eXloc : X'.env.locals = H3.objs.size := by rw [← hX']; rfl
  have eXfs : X'.fs = frs X.stack := by rw [← hX']; rfl
  have eXcl : X'.env.cells = (x0, H3.objs.size + 1) :: clF X.env.cells sc.names [] := by rw [← hX']; rfl
  have cell1 : ∀ x c, X'.env.cells.lookup x = some c → c = H3.objs.size + 1 ∨ X.env.cells.lookup x = some c := fun x c e => by
    rw [eXcl] at e
    exact lookup1 e
  have eXpn : X'.pn = [] := by rw [← hX']; rfl
  have eXm : X'.prog = X.prog ∧ X'.w = X.w ∧ X'.K = X.K ∧ X'.calm = true ∧ X'.A = X.A ∧ X'.xe = fun _ _ => False := by rw [← hX']; exact ⟨rfl, rfl, rfl, hcalm, rfl, rfl⟩
  obtain ⟨eP, ew, eK, ec, eA, exe⟩ := eXm
  have envE : X'.env = compEnvC sc ((x0, H3.objs.size + 1) :: clF X.env.cells sc.names []) H3.objs.size X.env := by rw [← hX']; rfl
  have hg' : PG X' tg g := hX' ▸ hg _ _ _
  have ht' : PTs X' ifs tc := hX' ▸ ht _ _ _
  have he' : PE X' elt te := hX' ▸ he _ _ _
  have hs0 : X'.s₀.heap = H3 := by rw [← hX']; rfl
  have hH0 : X'.H₀ = H := by rw [← hX']; rfl
  have hos : X'.s₀.os = s2.os := by rw [← hX']; rfl
  have loop : ∀ s₃ : Shared, s₃ = { s2 with heap := h₁, toks := s2.toks } →
      codeAny (model X.prog X.w) X.A (.compLoop (.ListComp elt [⟨tg, iter, ifs, 0⟩] sc pos) 0 (.ref it) (.ref s2.heap.objs.size) X'.env) (RR (.ref s2.heap.objs.size) H3.objs.size) s₃ := by
    rintro s₃ rfl
    refine compLoop_of (fun n s' => ∃ i acc its k H', Inv X' [] (none :: σ) H' s' ∧ tn i s'.heap ∧ (∀ b ∈ fp, H' b = none) ∧ H' s2.heap.objs.size = none ∧ Vals acc its ∧
      s'.heap.get? s2.heap.objs.size = some { cls := .type "list", data := .seq its.toArray k } ∧ W i n acc H') ?_ m0
      ⟨0, [], [], 0, H, I4, st1, fun b hb => (f2 b hb).1, hDn, .nil, hDobj, w0⟩
    rintro n s' ⟨i, acc, its, k, H', I', st', fr', hD', rv, hobj, w'⟩
    have fpok : ∀ {o : Obj} {H'' : Hp}, (∀ b ∈ fp, H'' b = none) → ∀ b ∈ fp, FpOk X' [(s2.heap.objs.size, o)] H'' b := fun {o H''} hn b hb => by
      refine ⟨hn b hb, by rw [eXloc, hC]; exact Nat.ne_of_lt (Nat.lt_succ_of_lt (fpLt b hb)), by rw [eXfs]; exact fpfr b hb, .inl (by rw [eXex]; exact List.mem_cons_of_mem _ hb), fun x c e => ?_, fun p hp => ?_⟩
      · rcases cell1 x c e with z | z
        · rw [z, hC]
          exact Nat.ne_of_gt (Nat.lt_succ_of_lt (Nat.lt_succ_of_lt (fpLt b hb)))
        · exact (f2 b hb).2.2.2.2.1 x c z
      · rw [eXpn] at hp
        have : p = (s2.heap.objs.size, o) := by simpa using hp
        rw [this]
        exact Nat.ne_of_gt (fpLt b hb)
    have pinD : ∀ {H'' : Hp} {s'' : Shared} {σ'' : St} {o : Obj}, Inv X' [] σ'' H'' s'' → s''.heap.get? s2.heap.objs.size = some o → (∀ v, o.data ≠ .cell v) → H'' s2.heap.objs.size = none → Inv X' [(s2.heap.objs.size, o)] σ'' H'' s'' := fun {H'' s'' σ'' o} J e d hn =>
      J.pins_of fun p hp => by
        have : p = (s2.heap.objs.size, o) := by simpa using hp
        rw [this]
        exact ⟨e, hn, by rw [eXloc]; exact hDC, by rw [eXfs]; exact hnofr _ (Nat.le_refl _), d⟩
    have J := pinD I' hobj (fun v => by intro z; cases z) hD'
    rw [← eP, ← ew, ← eA]
    rcases turn i n acc H' w' with ⟨stop, hz, hF⟩ | ⟨go, hz, N, hN, step⟩
    · have q1 : wpAny (model X'.prog X'.w) X'.A (pyNext (.ref it)) (fun r s1 => r = none ∧ Inv X' [(s2.heap.objs.size, { cls := .type "list", data := .seq its.toArray k })] (none :: σ) H' s1) (fun _ _ => False) s' := by
        have := T.done X' eP ew eK ec i _ s' _ H' (fun _ _ => False) J (fpok fr') st' stop
        rw [eP, ew]; exact this
      refine thn q1 fun r s1 h1 => ?_
      obtain ⟨hr, J1⟩ := h1
      subst hr
      have e1 := J1.pin (s2.heap.objs.size, { cls := .type "list", data := .seq its.toArray k }) (List.mem_append_right _ List.mem_cons_self)
      -- back to the block around
      have un : Un (frs X.stack) (s2.heap.objs.size :: fp) H H' H3 s1.heap := by
        have := J1.base
        rw [eXfs, eXex, hH0, hs0] at this
        exact this
      have hok1 : HOk X.prog X.w H' s1.heap := by have := J1.hok; rw [eP, ew] at this; exact this
      obtain ⟨mC, hmC, _⟩ := J1.loc
      have hmC' : s1.heap.Ns H3.objs.size mC := by rw [eXloc] at hmC; exact hmC
      have hCfree : H' H3.objs.size = none := by have := J1.free; rw [eXloc] at this; exact this
      refine fin _ _ s1 acc H' ⟨mC, hmC'⟩ ?_ hF e1.2.1 ?_
      · refine I.fpOk (by rw [hC]; exact Nat.le_succ _) ?_
        rw [upd_ne (Ne.symm hDC)]
        exact hCfree
      · refine I.call' (ch := fp) (J1.os.trans hos) ?_ (hok1.adopt e1.2.1 hz rv e1.1) J1.bare fun b hb => ⟨(f2 b hb).2.2.2.1, (f2 b hb).2.1, (f2 b hb).2.2.2.2.1, (f2 b hb).2.2.2.2.2⟩
        have below : ∀ b o, s2.heap.get? b = some o → b ≠ s2.heap.objs.size := fun b o e => Nat.ne_of_lt (Heap.lt_size e)
        have nin : ∀ b o, s2.heap.get? b = some o → b ∉ fp → b ∉ s2.heap.objs.size :: fp := fun b o e hb z => (List.mem_cons.mp z).elim (below b o e) hb
        have trkne : ∀ b u, H b = some u → b ≠ s2.heap.objs.size := fun b u e z => by rw [z, hDn] at e; cases e
        refine ⟨fun b o e n hf hb => un.keep b o (old3 b o e) n hf (nin b o e hb), fun b o e n hf hb => un.slot b o (old3 b o e) n hf (nin b o e hb), fun b o e n hb => ?_, fun b o e hb => un.there b o (old3 b o e) (nin b o e hb), fun b ys e => ?_, fun b o u e => ?_, fun b ps e => ?_⟩
        · rw [upd_ne (below b o e)]; exact un.free b o (old3 b o e) n (nin b o e hb)
        · rw [upd_ne (trkne b _ e)]; exact un.tups b ys e
        · rw [upd_ne (trkne b _ e)]; exact un.frzs b o u e
        · rw [upd_ne (trkne b _ e)]; exact un.tbls b ps e
    · have q1 := T.item X' eP ew eK ec i _ s' _ H' (fun _ _ => False) J (fpok fr') st' go
      rw [← eP, ← ew] at q1
      have q2 := q1
      refine thn q2 fun r s1 h1 => ?_
      obtain ⟨u, hr, h4⟩ := h1
      subst hr
      dsimp only
      refine thn h4 fun _ s5 ⟨x, H5, J5, r5, y5, st5, fr5⟩ => ?_
      have J5' := J5.pinned (fpok fr5) (T.obj _ _ st5)
      have q5 := hg' _ s5 _ H5 x u _ J5' r5 (step x H5 y5)
      rw [exe] at q5
      refine thn q5 fun _ s6 ⟨σ6, H6, J6, hσ, q6⟩ => ?_
      have q7 := ht' _ s6 σ6 H6 _ J6 q6
      rw [exe] at q7
      refine thn q7 fun ok s7 ⟨H7, J7, q7⟩ => ?_
      -- the state behind a turn
      have lenσ : ∀ {H8 : Hp} {s8 : Shared} {pl : List (Addr × Obj)}, Inv X' pl σ6 H8 s8 → (none :: σ).length = σ6.length := fun {H8 s8 pl} J8 => J6.len.symm ▸ I4.len
      have weak : ∀ {H8 : Hp} {s8 : Shared} {pl : List (Addr × Obj)}, Inv X' pl σ6 H8 s8 → Inv X' pl (none :: σ) H8 s8 := fun {H8 s8 pl} J8 => by
        refine J8.weak (lenσ J8) fun j v e => ?_
        cases j with
        | zero => cases e
        | succ j =>
          rw [List.getElem?_cons_succ, ← hσ, List.getElem?_drop] at e
          rw [← e]
          congr 1
          omega
      have back : ∀ {H8 : Hp} {s8 : Shared}, Inv X' ([(s2.heap.objs.size, { cls := .type "list", data := .seq its.toArray k })] ++ pinsAt fp s5.heap) σ6 H8 s8 →
          Inv X' [] (none :: σ) H8 s8 ∧ tn (i + 1) s8.heap ∧ (∀ b ∈ fp, H8 b = none) ∧ H8 s2.heap.objs.size = none ∧ s8.heap.get? s2.heap.objs.size = some { cls := .type "list", data := .seq its.toArray k } := fun {H8 s8} J8 => by
        have eD := J8.pin (s2.heap.objs.size, { cls := .type "list", data := .seq its.toArray k }) (List.mem_append_right _ (List.mem_append_left _ List.mem_cons_self))
        refine ⟨(weak J8).pins_of fun p hp => absurd hp (by simp), T.keep _ _ _ st5 fun b hb o e => (J8.pin (b, o) (List.mem_append_right _ (List.mem_append_right _ (mem_pinsAt hb e)))).1, fun b hb => ?_, eD.2.1, eD.1⟩
        obtain ⟨o, e, d⟩ := T.obj _ _ st5 b hb
        exact (J8.pin (b, o) (List.mem_append_right _ (List.mem_append_right _ (mem_pinsAt hb e)))).2.1
      cases ok with
      | false =>
        simp only [Bool.false_eq_true, if_false] at q7 ⊢
        obtain ⟨m', hm, w7⟩ := hN _ _ q7
        obtain ⟨a1, a2, a3, a4, a5⟩ := back J7
        exact ⟨m', hm, i + 1, acc, its, k, H7, a1, a2, a3, a4, rv, a5, w7⟩
      | true =>
        simp only [if_true] at q7 ⊢
        have q8 := he' _ s7 σ6 H7 _ J7 q7
        rw [exe] at q8
        refine thn q8 fun u8 s8 ⟨y, H8, J8, r8, q9⟩ => ?_
        obtain ⟨m', hm, w8⟩ := hN _ _ q9
        obtain ⟨a1, a2, a3, a4, a5⟩ := back J8
        have hits : its.length = acc.length := rv.length.symm
        refine wpAny_list_append_plain (hsz := by show its.toArray.size ≤ sizeLine; rw [List.size_toArray, hits]; exact Nat.le_of_lt hz) ⟨k, a5⟩ fun h9 hl9 hs9 => ?_
        obtain ⟨k9, e9⟩ := hl9
        refine ⟨m', hm, i + 1, acc ++ [y], its ++ [u8], k9, H8, ?_, ?_, a3, a4, rv.append (.cons r8 .nil), ?_, w8⟩
        · exact a1.turned (t' := s8.toks) (fun b o hb e => hs9.extBut b o hb e) a4 (by rw [eXloc]; exact hDC) (.inl (by rw [eXex]; exact List.mem_cons_self)) (fun x c e => by
            rcases cell1 x c e with z | z
            · rw [z, hC]; exact Nat.ne_of_gt (Nat.lt_succ_of_lt (Nat.lt_succ_self _))
            · exact hnocell _ (Nat.le_refl _) x c z) (fun p hp => by rw [eXpn] at hp; simp at hp)
        · exact T.keep _ _ _ a2 fun b hb o e => hs9.extBut b o (Nat.ne_of_lt (fpLt b hb)) e
        · rw [e9]
          congr 2
          simp
  rw [show ({ newEnv1E sc H3.objs.size X.env.globals ((x0, H3.objs.size + 1) :: clF X.env.cells sc.names []) X.env with scope := relabel sc X.env } : Env) = X'.env from envE.symm]
  exact codeAny_compStart_list (loop _ rfl) (T.self X.A 0 _ _ _ st1 (loop _ rfl))
end
section
variable {X : Cx} {tg iter elt : Expr} {ifs : List Expr} {sc : Scope} {pos : Pos} {x0 : Str} {wi : TI} {g : TG} {tc : TT} {te : TE}
theorem pe_comp1 (S : CScope1 X x0 sc) (hc : X.calm = true) (hi : PI X tg iter wi) (hg : ∀ ex s3 H3, PG (cxD X x0 sc ex s3 H3) tg g) (ht : ∀ ex s3 H3, PTs (cxD X x0 sc ex s3 H3) ifs tc) (he : ∀ ex s3 H3, PE (cxD X x0 sc ex s3 H3) elt te)
    (hs : ∀ x, foldedSetIterable iter X.env x = pure x := by intro _; rfl) : PE X (.ListComp elt [⟨tg, iter, ifs, 0⟩] sc pos) (tLC 1 wi g tc te) := by
  intro pins s σ H Q I h
  rw [eval_ListComp]
  refine wpAny_comprehension_free (use := none) rfl hs (closure_eq (S.cells I.ok)) S.kind S.names (thn (hi pins s σ H _ I h) fun v s1 h1 => thn h1 fun itv s2 h2 => ?_)
  obtain ⟨it, fp, tn, J, H2, e, I2, T, st2, f2, W, w0, turn⟩ := h2
  subst e
  refine comp_core1 (RR := fun acc C => compPost (model X.prog X.w) X.A X.xe none (EP X pins σ Q) acc C) S hc hg ht he I2 T st2 f2 W w0 _ turn fun D C s' acc H' hns fC hF hD IF => ?_
  obtain ⟨m, hm⟩ := hns
  exact ⟨m, hm, fun h' hs' => ⟨.ref D, _, fC.turn IF hs', rfl, hF D hD⟩⟩
/-- what is asked of such a scope, reckoned -/
def csc1B (N : List Str) (x0 : Str) (osc sc : Scope) : Bool :=
  decide (sc.kind = .function) && decide (sc.names.lookup x0 = some .cell) && sc.names.all (fun y => decide (y.2 ≠ .cell) || decide (y.1 = x0)) && sc.names.all (fun y => decide (y.2 ≠ .local) || decide (sc.names.lookup y.1 = some .local)) &&
    N.all (fun y => decide (sc.names.lookup y ≠ some .local)) && sc.names.all (fun y => decide (y.2 ≠ .free) || (decide (osc.names.lookup y.1 = some .cell) || decide (osc.names.lookup y.1 = some .free))) && decide ((x0 :: N).Nodup)
theorem cs1 {X : Cx} {x0 : Str} {sc : Scope} (N : List Str) (osc : Scope) (hN : X.N = N) (ho : X.env.scope = osc) (h : csc1B N x0 osc sc = true) (laid : ∀ a cl, cellsFrom a sc.names cl = (x0, a) :: cl) (push : ∀ h, pushCells h sc.names = h.push { cls := .type "cell", data := .cell none }) : CScope1 X x0 sc := by
  unfold csc1B at h
  simp only [Bool.and_eq_true, List.all_eq_true, decide_eq_true_eq, Bool.or_eq_true] at h
  obtain ⟨⟨⟨⟨⟨⟨h1, h2⟩, h3⟩, h4⟩, h5⟩, h6⟩, h7⟩ := h
  refine ⟨h1, h2, fun y hy e => (h3 y hy).resolve_left fun z => z e, fun y hy e => (h4 y hy).resolve_left fun z => z e, by rw [hN]; exact h5, fun y hy e => ?_, laid, push, by rw [hN]; exact h7⟩
  show X.env.scope.names.lookup y.1 = _ ∨ X.env.scope.names.lookup y.1 = _
  rw [ho]
  exact (h6 y hy).resolve_left fun z => z e
end
end L2

namespace L2
open PySem PySem.Spec PyProof.Rows
/-! ### what is told twice, and the tree of cuts -/
open Classical in
noncomputable def unfF (m : Nat) (rs : List RD) (x : Nat) : US := if h : ∃ t, Run rs ⟨x, beginBs m x, []⟩ t then h.choose else ⟨x, [], []⟩
theorem Run.unfF {m x : Nat} {rs : List RD} {s : US} (R : Run rs ⟨x, beginBs m x, []⟩ s) : L2.unfF m rs x = s := by
  have h : ∃ t, Run rs ⟨x, beginBs m x, []⟩ t := ⟨s, R⟩
  unfold L2.unfF
  rw [dif_pos h]
  exact h.choose_spec.det R
def bitsIn (p : Nat) (bs : List Nat) : List Nat := (bs.filter fun b => !decide (b &&& p = 0)).map fun b => b &&& p
noncomputable def gainedN (m : Nat) (rs : List RD) (p x : Nat) : Nat := (p &&& (unfF m rs x).fx) - ((p &&& (unfF m rs x).fx) &&& x)
noncomputable def againN (m : Nat) (rs : List RD) (p x : Nat) : Option Nat :=
  if p &&& (unfF m rs x).fx = p then none else if gainedN m rs p x ≠ 0 then some (gainedN m rs p x) else
    if 1 < (bitsIn p (unfF m rs x).bs).length then (bitsIn p (unfF m rs x).bs).head? else none
noncomputable def hitT (m : Nat) (rs : List RD) (p x : Nat) : Option (Nat × Nat) := (againN m rs p x).map fun g => (x, g)
noncomputable def twF (m : Nat) (rs : List RD) (p : Nat) : Option (Nat × Nat) := (dueN p).findSome? (hitT m rs p)
theorem bitsIn_pw {p : Nat} {bs : List Nat} (h : bs.Pairwise fun a b => a &&& b = 0) : (bitsIn p bs).Pairwise fun a b => a &&& b = 0 := by
  unfold bitsIn
  rw [List.pairwise_map]
  refine (h.filter _).imp fun {a b} e => ?_
  refine dis_iff.mpr fun k hk => ?_
  rw [Nat.testBit_and, Bool.and_eq_true] at hk
  rw [Nat.testBit_and, dis_iff.mp e k hk.1]; rfl
theorem bitsIn_mem {p c : Nat} {bs : List Nat} (h : c ∈ bitsIn p bs) : c ≠ 0 ∧ ∃ b ∈ bs, c = b &&& p := by
  unfold bitsIn at h
  obtain ⟨b, hb, rfl⟩ := List.mem_map.mp h
  obtain ⟨h1, h2⟩ := List.mem_filter.mp hb
  refine ⟨fun e => ?_, b, h1, rfl⟩
  rw [decide_eq_true e] at h2
  cases h2
theorem again_ok {m x p g : Nat} {rs : List RD} (hx : x < 2 ^ m) (h : againN m rs p x = some g) : g ≠ 0 ∧ (∀ k, HasB g k → HasB p k) ∧ x ||| g ≠ p := by
  obtain ⟨s, R⟩ := run_ex (rs := rs) _ ⟨x, beginBs m x, []⟩ (Nat.le_refl _) (Good.begin hx)
  have G := (R.good (Good.begin hx)).1
  have e := R.unfF
  have xf : ∀ k, HasB x k → HasB s.fx k := fun k hk => G.col.mpr ⟨hasb_lt hx hk, fun b hb => dis_iff.mp (R.apart0 hx hb) k hk⟩
  unfold againN gainedN at h
  rw [e] at h
  split at h
  · cases h
  · rename_i n1
    split at h
    · rename_i n2
      injection h with h
      rw [h] at n2
      have gb : ∀ k, HasB g k ↔ (HasB p k ∧ HasB s.fx k) ∧ ¬ HasB x k := fun k => by rw [← h, hasb_out, hasb_and]
      refine ⟨n2, fun k hk => ((gb k).mp hk).1.1, fun z => n1 (sub_and fun k hk => ?_)⟩
      rw [← z, hasb_or] at hk
      rcases hk with hk | hk
      · exact xf k hk
      · exact ((gb k).mp hk).1.2
    · split at h
      · rename_i n3
        have pw := bitsIn_pw (p := p) G.pw
        have mem := fun c => bitsIn_mem (c := c) (p := p) (bs := s.bs)
        revert n3 h pw mem
        match bitsIn p s.bs with
        | [] => intro n3; cases n3
        | [_] => intro n3; exact absurd n3 (Nat.lt_irrefl 1)
        | y :: c :: l =>
          intro n3 h pw mem
          injection h with h
          subst h
          obtain ⟨y0, b, hb, rfl⟩ := mem y (List.mem_cons_self ..)
          obtain ⟨c0, b', hb', ec⟩ := mem c (List.mem_cons_of_mem _ (List.mem_cons_self ..))
          refine ⟨y0, fun k hk => ((hasb_and _ _ _).mp hk).2, fun z => ?_⟩
          obtain ⟨k, hk⟩ := bit_of_ne c0
          have h1 := (List.pairwise_cons.mp pw).1 c (List.mem_cons_self ..)
          have h2 : HasB b' k ∧ HasB p k := (hasb_and _ _ _).mp (ec ▸ hk)
          have h3 := h2.2
          rw [← z, hasb_or] at h3
          rcases h3 with h3 | h3
          · have := dis_iff.mp (R.apart0 hx hb') k h3
            rw [show b'.testBit k = true from h2.1] at this
            cases this
          · have := dis_iff.mp h1 k h3
            rw [show c.testBit k = true from hk] at this
            cases this
      · cases h
theorem due_sub {p x : Nat} (h : x ∈ dueN p) : x &&& p = x := by
  unfold dueN dueM rowN at h
  obtain ⟨i, _, h⟩ := List.mem_flatMap.mp h
  have := (List.mem_filter.mp h).2
  rw [Bool.and_eq_true] at this
  exact of_decide_eq_true this.1
/-- a pair that is told twice in p cuts p in two smaller ones that have all of p -/
structure TwP (p : Nat) (u : Nat × Nat) : Prop where
  one : u.1 ||| u.2 < p
  oth : p - (p &&& u.2) < p
  all : ∀ k, HasB p k ↔ HasB (u.1 ||| u.2) k ∨ HasB (p - (p &&& u.2)) k
theorem tw_ok {m p : Nat} {rs : List RD} {u : Nat × Nat} (hp : p < 2 ^ m) (h : twF m rs p = some u) : TwP p u := by
  unfold twF at h
  obtain ⟨x, hx, e⟩ := List.exists_of_findSome?_eq_some h
  unfold hitT at e
  obtain ⟨g, hg, rfl⟩ := Option.map_eq_some_iff.mp e
  have sx := due_sub hx
  have xp : ∀ k, HasB x k → HasB p k := fun k hk => ((hasb_and _ _ _).mp (sx.symm ▸ hk)).2
  have lx : x < 2 ^ m := by
    have : x &&& p ≤ p := Nat.and_le_right
    rw [sx] at this
    omega
  obtain ⟨g0, gp, ne⟩ := again_ok lx hg
  have e1 : p &&& g = g := by rw [Nat.and_comm]; exact sub_and gp
  have l1 : g ≤ p := by have : p &&& g ≤ p := Nat.and_le_left; rw [e1] at this; exact this
  have e2 : (x ||| g) &&& p = x ||| g := sub_and fun k hk => by
    rcases (hasb_or _ _ _).mp hk with z | z
    · exact xp k z
    · exact gp k z
  have l2 : x ||| g ≤ p := by have : (x ||| g) &&& p ≤ p := Nat.and_le_right; rw [e2] at this; exact this
  refine ⟨Nat.lt_of_le_of_ne l2 ne, by show p - (p &&& g) < p; rw [e1]; omega, fun k => ?_⟩
  show _ ↔ HasB (x ||| g) k ∨ HasB (p - (p &&& g)) k
  rw [hasb_out, hasb_or]
  constructor
  · intro hk
    by_cases z : HasB g k
    · exact Or.inl (Or.inr z)
    · exact Or.inr ⟨hk, z⟩
  · rintro ((z | z) | z)
    · exact xp k z
    · exact gp k z
    · exact z.1
theorem tw_or {m p : Nat} {rs : List RD} {u : Nat × Nat} (hp : p < 2 ^ m) (h : twF m rs p = some u) : (u.1 ||| u.2) ||| (p - (p &&& u.2)) = p := bits_eq fun k => by
  rw [hasb_or, ← (tw_ok hp h).all]
/-! the run by levels -/
theorem tw_hit {m p i j x : Nat} {rs : List RD} {u : Nat × Nat} (h0 : (dueM p i).findSome? (hitT m rs p) = none) (h1 : ((rowN p i).take j).findSome? (hitT m rs p) = none) (hi : i < 8) (e : (rowN p i)[j]? = some x) (h : hitT m rs p x = some u) : twF m rs p = some u := by
  unfold twF dueN
  have e1 : ∀ d, ∃ z, dueM p (i + 1 + d) = dueM p (i + 1) ++ z := fun d => by
    induction d with
    | zero => exact ⟨[], by rw [List.append_nil, Nat.add_zero]⟩
    | succ d ih => obtain ⟨z, ez⟩ := ih; exact ⟨z ++ rowN p (i + 1 + d), by rw [← Nat.add_assoc, dueM_succ, ez, List.append_assoc]⟩
  obtain ⟨z, ez⟩ := e1 (7 - i)
  rw [show 8 = i + 1 + (7 - i) by omega, ez, dueM_succ, List.findSome?_append, List.findSome?_append, h0]
  have hj : j < (rowN p i).length := (List.getElem?_eq_some_iff.mp e).1
  have e2 : rowN p i = (rowN p i).take j ++ x :: (rowN p i).drop (j + 1) := by
    have ex : (rowN p i)[j] = x := (List.getElem?_eq_some_iff.mp e).2
    rw [← ex, ← List.drop_eq_getElem_cons hj, List.take_append_drop]
  rw [e2, List.findSome?_append, h1, List.findSome?_cons, h]
  rfl
theorem tw_miss {m p i j x : Nat} {rs : List RD} (h1 : ((rowN p i).take j).findSome? (hitT m rs p) = none) (e : (rowN p i)[j]? = some x) (h : hitT m rs p x = none) : ((rowN p i).take (j + 1)).findSome? (hitT m rs p) = none := by
  rw [List.take_succ, e, List.findSome?_append, h1]
  simp [h]
theorem tw_level {m p i j : Nat} {rs : List RD} (h0 : (dueM p i).findSome? (hitT m rs p) = none) (h1 : ((rowN p i).take j).findSome? (hitT m rs p) = none) (hj : (rowN p i).length ≤ j) : (dueM p (i + 1)).findSome? (hitT m rs p) = none := by
  rw [List.take_of_length_le hj] at h1
  rw [dueM_succ, List.findSome?_append, h0, h1]
  rfl
theorem tw_none {m p i : Nat} {rs : List RD} (hp : p < 128) (hi : i < 9) (h0 : (dueM p i).findSome? (hitT m rs p) = none) (e : rowN p i = []) : twF m rs p = none := by
  unfold twF
  rw [← row_due p hp i hi e]
  exact h0
/-! trees -/
inductive Tr where
  | whole (p : Nat)
  | cut (p s g : Nat) (l r : Tr)
noncomputable def trF (m : Nat) (rs : List RD) : Nat → Nat → Tr
  | 0, p => .whole p
  | n + 1, p => match twF m rs p with
    | none => .whole p
    | some u => .cut p u.1 u.2 (trF m rs n (u.1 ||| u.2)) (trF m rs n (p - (p &&& u.2)))
noncomputable def trP (m : Nat) (rs : List RD) (p : Nat) : Tr := trF m rs (p + 1) p
theorem trF_eq {m : Nat} {rs : List RD} : ∀ (n n' p : Nat), p < 2 ^ m → p < n → p < n' → trF m rs n p = trF m rs n' p
  | 0, _, _, _, h, _ => absurd h (Nat.not_lt_zero _)
  | _, 0, _, _, _, h => absurd h (Nat.not_lt_zero _)
  | n + 1, n' + 1, p, hp, h, h' => by
    unfold trF
    cases e : twF m rs p with
    | none => rfl
    | some u =>
      have z := tw_ok hp e
      have z1 := z.one
      have z2 := z.oth
      show Tr.cut _ _ _ _ _ = Tr.cut _ _ _ _ _
      rw [trF_eq n n' _ (by omega) (by omega) (by omega), trF_eq n n' (p - (p &&& u.2)) (by omega) (by omega) (by omega)]
theorem trP_none {m p : Nat} {rs : List RD} (h : twF m rs p = none) : trP m rs p = .whole p := by
  unfold trP trF
  rw [h]
theorem trP_some {m p : Nat} {rs : List RD} {u : Nat × Nat} (hp : p < 2 ^ m) (h : twF m rs p = some u) : trP m rs p = .cut p u.1 u.2 (trP m rs (u.1 ||| u.2)) (trP m rs (p - (p &&& u.2))) := by
  have z := tw_ok hp h
  have z1 := z.one
  have z2 := z.oth
  unfold trP
  conv => lhs; unfold trF
  rw [h]
  show Tr.cut _ _ _ _ _ = Tr.cut _ _ _ _ _
  rw [trF_eq p _ (u.1 ||| u.2) (by omega) (by omega) (Nat.lt_succ_self _), trF_eq p _ (p - (p &&& u.2)) (by omega) (by omega) (Nat.lt_succ_self _)]
def Tr.cnt : Tr → Nat
  | .whole _ => 1
  | .cut _ _ _ l r => 1 + l.cnt + r.cnt
def Tr.lvs : Tr → List Nat
  | .whole p => [p]
  | .cut _ _ _ l r => l.lvs ++ r.lvs
def Tr.dep : Tr → Nat
  | .whole _ => 0
  | .cut _ _ _ l r => max l.dep r.dep + 1
theorem Tr.cnt_pos : ∀ t : Tr, 1 ≤ t.cnt
  | .whole _ => Nat.le_refl _
  | .cut _ _ _ l r => by unfold Tr.cnt; omega
theorem Tr.lvs_le : ∀ t : Tr, t.lvs.length ≤ t.cnt
  | .whole _ => Nat.le_refl _
  | .cut _ _ _ l r => by
    have h1 := Tr.lvs_le l
    have h2 := Tr.lvs_le r
    unfold Tr.lvs Tr.cnt
    rw [List.length_append]
    omega
theorem tr_dep {m : Nat} {rs : List RD} : ∀ (n p : Nat), p ≤ n → p < 2 ^ m → (trP m rs p).dep ≤ p
  | n, p, hn, hp => by
    cases e : twF m rs p with
    | none => rw [trP_none e]; exact Nat.zero_le _
    | some u =>
      have z := tw_ok hp e
      have z1 := z.one
      have z2 := z.oth
      rw [trP_some hp e]
      match n, hn with
      | 0, hn => omega
      | n + 1, hn =>
        have h1 := tr_dep (m := m) (rs := rs) n _ (by omega : u.1 ||| u.2 ≤ n) (by omega)
        have h2 := tr_dep (m := m) (rs := rs) n _ (by omega : p - (p &&& u.2) ≤ n) (by omega)
        show max _ _ + 1 ≤ p
        omega
theorem tr_col {m k : Nat} {rs : List RD} : ∀ (n p : Nat), p ≤ n → p < 2 ^ m → HasB p k → ∃ q ∈ (trP m rs p).lvs, HasB q k
  | n, p, hn, hp, hk => by
    cases e : twF m rs p with
    | none => rw [trP_none e]; exact ⟨p, List.mem_singleton.mpr rfl, hk⟩
    | some u =>
      have z := tw_ok hp e
      have z1 := z.one
      have z2 := z.oth
      rw [trP_some hp e]
      match n, hn with
      | 0, hn => omega
      | n + 1, hn =>
        rcases (z.all k).mp hk with hk | hk
        · obtain ⟨q, h1, h2⟩ := tr_col (m := m) (rs := rs) n _ (by omega : u.1 ||| u.2 ≤ n) (by omega) hk
          exact ⟨q, List.mem_append.mpr (Or.inl h1), h2⟩
        · obtain ⟨q, h1, h2⟩ := tr_col (m := m) (rs := rs) n _ (by omega : p - (p &&& u.2) ≤ n) (by omega) hk
          exact ⟨q, List.mem_append.mpr (Or.inr h1), h2⟩
/-- the nodes below a list of parts -/
noncomputable def cntL (m : Nat) (rs : List RD) (ps : List Nat) : Nat := (ps.map fun p => (trP m rs p).cnt).sum
theorem cntL_app (m : Nat) (rs : List RD) (a b : List Nat) : cntL m rs (a ++ b) = cntL m rs a + cntL m rs b := by
  unfold cntL
  rw [List.map_append, List.sum_append]
theorem cntL_none {m p : Nat} {rs : List RD} (h : twF m rs p = none) (ps : List Nat) : cntL m rs (ps ++ [p]) = cntL m rs ps + 1 := by
  rw [cntL_app]
  unfold cntL
  simp [trP_none h, Tr.cnt]
theorem cntL_some {m p : Nat} {rs : List RD} {u : Nat × Nat} (hp : p < 2 ^ m) (h : twF m rs p = some u) (ps : List Nat) : cntL m rs (ps ++ [p]) = 1 + cntL m rs (ps ++ [u.1 ||| u.2, p - (p &&& u.2)]) := by
  rw [cntL_app, cntL_app]
  unfold cntL
  simp [trP_some hp h, Tr.cnt]
  omega
/-- the leaves below a list of trees, the last first -/
def lvsL (ts : List Tr) : List Nat := ts.reverse.flatMap Tr.lvs
theorem lvsL_whole (ts : List Tr) (p : Nat) : lvsL (ts ++ [.whole p]) = p :: lvsL ts := by
  unfold lvsL
  rw [List.reverse_append]
  rfl
theorem lvsL_cut (ts : List Tr) (p s g : Nat) (l r : Tr) : lvsL (ts ++ [.cut p s g l r]) = lvsL (ts ++ [r, l]) := by
  unfold lvsL
  rw [List.reverse_append, List.reverse_append]
  simp [Tr.lvs, List.flatMap_cons]
def cntT (ts : List Tr) : Nat := (ts.map Tr.cnt).sum
theorem cntT_app (a b : List Tr) : cntT (a ++ b) = cntT a + cntT b := by
  unfold cntT
  rw [List.map_append, List.sum_append]
theorem bitsIn_succ {p k b : Nat} {bs : List Nat} (h : bs[k]? = some b) : bitsIn p (bs.take (k + 1)) = bitsIn p (bs.take k) ++ (if b &&& p = 0 then [] else [b &&& p]) := by
  unfold bitsIn
  rw [List.take_succ, h, List.filter_append, List.map_append]
  split
  · rename_i z
    simp [z]
  · rename_i z
    simp [z]
theorem bitsIn_len (p : Nat) (bs : List Nat) (k : Nat) : (bitsIn p (bs.take k)).length ≤ k := by
  unfold bitsIn
  rw [List.length_map]
  exact Nat.le_trans (List.length_filter_le _ _) (List.length_take_le _ _)
theorem row_sub {p i x : Nat} (h : x ∈ rowN p i) : x &&& p = x := by
  unfold rowN at h
  have := (List.mem_filter.mp h).2
  rw [Bool.and_eq_true] at this
  exact of_decide_eq_true this.1
end L2

namespace L2
open PySem PySem.Spec PyProof.Rows
/-! ### pairs and trees in the heap -/
def optN : Option Nat → V
  | none => .non
  | some g => vN g
def PairV (H : Hp) : Option (Nat × Nat) → V → Prop
  | none, v => v = .non
  | some u, v => ∃ a, v = .ref a ∧ H a = some (.tup [vN u.1, vN u.2])
theorem PairV.same {H H' : Hp} (e : Same H H') : ∀ {o : Option (Nat × Nat)} {v : V}, PairV H o v → PairV H' o v
  | none, _, h => h
  | some _, _, ⟨a, h1, h2⟩ => ⟨a, h1, e _ _ h2⟩
/-- a tuple stays where only a dict is changed -/
theorem but_tup {d a : Addr} {H H' : Hp} {kvs : List (Key × V)} {xs : List V} (b : But d H H') (hd : H d = some (.dK kvs)) (h : H a = some (.tup xs)) : H' a = some (.tup xs) := b _ _ h (ne_of h hd (by intro z; cases z))
theorem but_lst {d a : Addr} {H H' : Hp} {kvs : List (Key × V)} {xs : List V} (b : But d H H') (hd : H d = some (.dK kvs)) (h : H a = some (.lst xs)) : H' a = some (.lst xs) := b _ _ h (ne_of h hd (by intro z; cases z))
theorem PairV.but {d : Addr} {H H' : Hp} {kvs : List (Key × V)} (b : But d H H') (hd : H d = some (.dK kvs)) : ∀ {o : Option (Nat × Nat)} {v : V}, PairV H o v → PairV H' o v
  | none, _, h => h
  | some _, _, ⟨a, h1, h2⟩ => ⟨a, h1, but_tup b hd h2⟩
theorem RulesAt.butD {d : Addr} {H H' : Hp} {kvs : List (Key × V)} {m : Nat} {rs : List Rl} (h : RulesAt H m rs) (b : But d H H') (hd : H d = some (.dK kvs)) : RulesAt H' m rs := fun r hr => ⟨but_tup b hd (h r hr).1, (h r hr).2⟩
theorem PairV.put {H : Hp} {l : Addr} {xs : List V} {o' : HO} (hl : H l = some (.lst xs)) : ∀ {o : Option (Nat × Nat)} {v : V}, PairV H o v → PairV (upd H l o') o v
  | none, _, h => h
  | some _, _, ⟨a, h1, h2⟩ => ⟨a, h1, by rw [upd_ne (ne_of h2 hl (by intro z; cases z))]; exact h2⟩
def TreeV (H : Hp) : Tr → V → Prop
  | .whole p, v => ∃ a, v = .ref a ∧ H a = some (.tup [.str "whole", vN p])
  | .cut p s g l r, v => ∃ a x y, v = .ref a ∧ H a = some (.tup [.str "cut", vN p, vN s, vN g, x, y]) ∧ TreeV H l x ∧ TreeV H r y
theorem TreeV.same {H H' : Hp} (e : Same H H') : ∀ {t : Tr} {v : V}, TreeV H t v → TreeV H' t v
  | .whole _, _, ⟨a, h1, h2⟩ => ⟨a, h1, e _ _ h2⟩
  | .cut _ _ _ _ _, _, ⟨a, x, y, h1, h2, h3, h4⟩ => ⟨a, x, y, h1, e _ _ h2, h3.same e, h4.same e⟩
theorem TreeV.but {d : Addr} {H H' : Hp} {kvs : List (Key × V)} (b : But d H H') (hd : H d = some (.dK kvs)) : ∀ {t : Tr} {v : V}, TreeV H t v → TreeV H' t v
  | .whole _, _, ⟨a, h1, h2⟩ => ⟨a, h1, but_tup b hd h2⟩
  | .cut _ _ _ _ _, _, ⟨a, x, y, h1, h2, h3, h4⟩ => ⟨a, x, y, h1, but_tup b hd h2, h3.but b hd, h4.but b hd⟩
/-- a list is changed -/
theorem TreeV.put {H : Hp} {l : Addr} {xs : List V} {o : HO} (hl : H l = some (.lst xs)) : ∀ {t : Tr} {v : V}, TreeV H t v → TreeV (upd H l o) t v
  | .whole _, _, ⟨a, h1, h2⟩ => ⟨a, h1, by rw [upd_ne (ne_of h2 hl (by intro z; cases z))]; exact h2⟩
  | .cut _ _ _ _ _, _, ⟨a, x, y, h1, h2, h3, h4⟩ => ⟨a, x, y, h1, by rw [upd_ne (ne_of h2 hl (by intro z; cases z))]; exact h2, h3.put hl, h4.put hl⟩
/-- trees in a list -/
inductive TreesV (H : Hp) : List Tr → List V → Prop
  | nil : TreesV H [] []
  | cons {t : Tr} {v : V} {ts : List Tr} {vs : List V} : TreeV H t v → TreesV H ts vs → TreesV H (t :: ts) (v :: vs)
theorem TreesV.same {H H' : Hp} (e : Same H H') : ∀ {ts : List Tr} {vs : List V}, TreesV H ts vs → TreesV H' ts vs
  | _, _, .nil => .nil
  | _, _, .cons a b => .cons (a.same e) (b.same e)
theorem TreesV.put {H : Hp} {l : Addr} {xs : List V} {o : HO} (hl : H l = some (.lst xs)) : ∀ {ts : List Tr} {vs : List V}, TreesV H ts vs → TreesV (upd H l o) ts vs
  | _, _, .nil => .nil
  | _, _, .cons a b => .cons (a.put hl) (b.put hl)
theorem TreesV.len {H : Hp} : ∀ {ts : List Tr} {vs : List V}, TreesV H ts vs → vs.length = ts.length
  | _, _, .nil => rfl
  | _, _, .cons _ b => by rw [List.length_cons, List.length_cons, b.len]
theorem TreesV.app {H : Hp} : ∀ {ts us : List Tr} {vs ws : List V}, TreesV H ts vs → TreesV H us ws → TreesV H (ts ++ us) (vs ++ ws)
  | _, _, _, _, .nil, h => h
  | _, _, _, _, .cons a b, h => .cons a (b.app h)
theorem TreesV.snoc {H : Hp} : ∀ {ts : List Tr} {vs : List V} {v : V}, TreesV H ts (vs ++ [v]) → ∃ ts' t, ts = ts' ++ [t] ∧ TreesV H ts' vs ∧ TreeV H t v
  | _, [], v, h => by
    cases h with
    | cons a b => cases b with | nil => exact ⟨[], _, rfl, .nil, a⟩
  | _, w :: vs, v, h => by
    cases h with
    | cons a b =>
      obtain ⟨ts', t, rfl, h1, h2⟩ := TreesV.snoc (vs := vs) b
      exact ⟨_ :: ts', t, rfl, .cons a h1, h2⟩
theorem cntT_len : ∀ ts : List Tr, ts.length ≤ cntT ts
  | [] => Nat.zero_le _
  | t :: ts => by
    have h1 := cntT_len ts
    have h2 := t.cnt_pos
    have e : cntT (t :: ts) = t.cnt + cntT ts := by unfold cntT; rw [List.map_cons, List.sum_cons]
    rw [e, List.length_cons]
    omega
/-- what is kept in the dict: for a part what twice tells of it -/
def TabOk (m : Nat) (rs : List RD) (H : Hp) (kvs : List (Key × V)) : Prop := ∀ (p : Nat) (v : V), valV kvs (Sum.inl (p : Int)) = some v → PairV H (twF m rs p) v
theorem TabOk.nil (m : Nat) (rs : List RD) (H : Hp) : TabOk m rs H [] := fun p v h => by cases h
theorem TabOk.put {m p : Nat} {rs : List RD} {H : Hp} {kvs : List (Key × V)} {v : V} (h : TabOk m rs H kvs) (hp : PairV H (twF m rs p) v) : TabOk m rs H (putK kvs (Sum.inl (p : Int)) v) := fun q u e => by
  rw [valV_put] at e
  split at e
  · rename_i c
    have c' : q = p := Int.ofNat_inj.mp (Sum.inl.inj c)
    cases e
    rw [c']
    exact hp
  · exact h q u e
theorem TabOk.same {m : Nat} {rs : List RD} {H H' : Hp} {kvs : List (Key × V)} (h : TabOk m rs H kvs) (e : Same H H') : TabOk m rs H' kvs := fun p v x => (h p v x).same e
theorem TabOk.but {d : Addr} {m : Nat} {rs : List RD} {H H' : Hp} {kvs l : List (Key × V)} (h : TabOk m rs H l) (b : But d H H') (hd : H d = some (.dK kvs)) : TabOk m rs H' l := fun p v x => (h p v x).but b hd
theorem shaped_dP (a : Int × Int) : SeqAt.shaped (dP a) = true := by
  have h1 := canLay_dP a
  have h2 := depth_dP a
  show (PyData.canLay0 (dP a) && decide (PyData.depth (dP a) ≤ 64)) = true
  rw [Bool.and_eq_true]
  exact ⟨h1, decide_eq_true (by omega)⟩
/-! ### promises -/
def spAgain (K : PySem.W.Frag) : Sp := fun vs H Q _ => ∃ (m p x : Nat) (rl : Addr) (rs : List Rl), vs = [vN m, .ref rl, vN p, vN x] ∧ m ≤ 7 ∧ x < 2 ^ m ∧ SqL K H rl (rs.map fun r => V.ref r.r) ∧ RulesAt H m rs ∧ rs.length ≤ 200 ∧
  ∀ H', Same H H' → Q (optN (againN m (rs.map Rl.d) p x)) H'
def spTwice (K : PySem.W.Frag) : Sp := fun vs H Q _ => ∃ (m p : Nat) (rl : Addr) (rs : List Rl), vs = [vN m, .ref rl, vN p] ∧ m ≤ 7 ∧ p < 2 ^ m ∧ SqL K H rl (rs.map fun r => V.ref r.r) ∧ RulesAt H m rs ∧ rs.length ≤ 200 ∧
  ∀ v H', Same H H' → PairV H' (twF m (rs.map Rl.d) p) v → Q v H'
def spTree (K : PySem.W.Frag) (n : Nat) : Sp := fun vs H Q _ => ∃ (m p : Nat) (rl : Addr) (rs : List Rl), vs = [vN m, .ref rl, vN p] ∧ m ≤ 7 ∧ p < 2 ^ m ∧ p < n ∧ SqL K H rl (rs.map fun r => V.ref r.r) ∧ RulesAt H m rs ∧ rs.length ≤ 200 ∧
  ∀ v H', Same H H' → TreeV H' (trP m (rs.map Rl.d) p) v → Q v H'
def spCount (n : Nat) : Sp := fun vs H Q _ => ∃ (v : V) (t : Tr), vs = [v] ∧ TreeV H t v ∧ t.dep < n ∧ Q (vN t.cnt) H
def spCutTree (K : PySem.W.Frag) (CT : Addr) : Sp := fun vs H Q E => ∃ (m : Nat) (rl : Addr) (rs : List Rl), vs = [vN m, .ref rl] ∧ m ≤ 7 ∧ SqL K H rl (rs.map fun r => V.ref r.r) ∧ RulesAt H m rs ∧ rs.length ≤ 200 ∧
  (60 < (trP m (rs.map Rl.d) (2 ^ m - 1)).cnt → ∀ H', Same H H' → E (.ref CT) none H') ∧ ((trP m (rs.map Rl.d) (2 ^ m - 1)).cnt ≤ 60 → ∀ v H', Same H H' → TreeV H' (trP m (rs.map Rl.d) (2 ^ m - 1)) v → Q v H')
def spLeaves (n : Nat) : Sp := fun vs H Q _ => ∃ (v : V) (t : Tr), vs = [v] ∧ TreeV H t v ∧ t.dep < n ∧ t.cnt ≤ 60 ∧ ∀ l H', Same H H' → H l = none → H' l = some (.lst (t.lvs.map vN)) → Q (.ref l) H'
def spTable62 (K : PySem.W.Frag) : Sp := fun vs H Q _ => ∃ (st : Addr) (ns : List Int) (k : Nat), vs = [.ref st] ∧ STF K H st ns k ∧ k ≤ 1000 ∧ ns.length ≤ 63 ∧
  ∀ (t p : Addr) (m : Nat) (rs : List Rl) (k' : Nat) (H' : Hp), 1 ≤ m → m ≤ 7 → rs.length ≤ 12 → RulesAt H' m rs → H' t = some (.tup [vN m, .ref p]) → H' p = some (.lst (rs.map fun r => V.ref r.r)) → H p = none → Q (.ref t) H'
def spPair (K : PySem.W.Frag) : Sp := fun vs H Q _ => ∃ (m p : Nat) (rl d : Addr) (rs : List Rl) (kvs : List (Key × V)), vs = [vN m, .ref rl, vN p, .ref d] ∧ m ≤ 7 ∧ p < 2 ^ m ∧ H rl = some (.lst (rs.map fun r => V.ref r.r)) ∧ RulesAt H m rs ∧ rs.length ≤ 200 ∧
  H d = some (.dK kvs) ∧ kvs.length ≤ 5000 ∧ TabOk m (rs.map Rl.d) H kvs ∧
  ∀ v H' kvs', But d H H' → H' d = some (.dK kvs') → kvs'.length ≤ kvs.length + 1 → TabOk m (rs.map Rl.d) H' kvs' → PairV H' (twF m (rs.map Rl.d) p) v → Q v H'
def spManyP (K : PySem.W.Frag) : Sp := fun vs H Q _ => ∃ (m : Nat) (rl d : Addr) (rs : List Rl) (kvs : List (Key × V)), vs = [vN m, .ref rl, .ref d] ∧ m ≤ 7 ∧ H rl = some (.lst (rs.map fun r => V.ref r.r)) ∧ RulesAt H m rs ∧ rs.length ≤ 200 ∧
  H d = some (.dK kvs) ∧ kvs.length ≤ 1000 ∧ TabOk m (rs.map Rl.d) H kvs ∧
  ∀ (c : Nat) H' kvs', But d H H' → H' d = some (.dK kvs') → kvs'.length ≤ kvs.length + 61 → TabOk m (rs.map Rl.d) H' kvs' → (60 < c ↔ 60 < (trP m (rs.map Rl.d) (2 ^ m - 1)).cnt) → Q (vN c) H'
def spRight62 (K : PySem.W.Frag) (n : Nat) : Sp := fun vs H Q _ => ∃ (m p : Nat) (v : V) (rl d : Addr) (rs : List Rl) (kvs : List (Key × V)), vs = [vN m, .ref rl, v, vN p, .ref d] ∧ m ≤ 7 ∧ p < 2 ^ m ∧ p < n ∧ H rl = some (.lst (rs.map fun r => V.ref r.r)) ∧ RulesAt H m rs ∧ rs.length ≤ 200 ∧
  H d = some (.dK kvs) ∧ kvs.length + (trP m (rs.map Rl.d) p).cnt ≤ 5000 ∧ TabOk m (rs.map Rl.d) H kvs ∧ TreeV H (trP m (rs.map Rl.d) p) v ∧
  ∀ H' kvs', But d H H' → H' d = some (.dK kvs') → kvs'.length ≤ kvs.length + (trP m (rs.map Rl.d) p).cnt → TabOk m (rs.map Rl.d) H' kvs' → Q (.bl true) H'
def spEnds62 : Sp := fun vs H Q _ => ∃ (v : V) (t : Tr), vs = [v] ∧ TreeV H t v ∧ t.cnt ≤ 60 ∧ ∀ l H', Same H H' → H l = none → H' l = some (.lst (t.lvs.map vN)) → Q (.ref l) H'
def spRefused (K : PySem.W.Frag) : Sp := fun vs H Q _ => ∃ (m : Nat) (rl : Addr) (rs : List Rl), vs = [vN m, .ref rl] ∧ m ≤ 7 ∧ SqL K H rl (rs.map fun r => V.ref r.r) ∧ RulesAt H m rs ∧ rs.length ≤ 200 ∧ 60 < (trP m (rs.map Rl.d) (2 ^ m - 1)).cnt ∧ ∀ H', Same H H' → Q (.bl true) H'
/-- isinstance(e, (A, B ..)), e a caught exception -/
theorem call_isET {X : Cx} {K : PySem.W.Frag} (hK : X.K = K) : CallR X (.builtin "isinstance") (fun vs H Q => ∃ ea C tp cs b, vs = [.ref ea, .ref tp] ∧ H ea = some (excO ea C) ∧ ExcI K C ∧ H tp = some (.tup cs) ∧ (∀ us, Vals cs us → PySem.W.kitAny K (.ref C) us = some b) ∧ Q (.bl b) H) := by
  subst hK
  intro pins s σ H xs us Q I r h
  obtain ⟨ea, C, tp, cs, b, rfl, he, i, ht, hk, q⟩ := h
  obtain ⟨u, v, rfl, rx, ry⟩ := vals2 r
  cases rx
  cases ry
  obtain ⟨⟨o, vs, h1, h2, _⟩, _⟩ := I.hok ea _ he
  obtain ⟨_, its, rv, ob, e1, e2, n, e3⟩ := I.hok tp _ ht
  obtain ⟨oc, od, dt, sl⟩ := ob
  obtain rfl : oc = _ := e2
  obtain rfl : dt = _ := e3
  exact PySem.W.kia_tup (kitx_exc i) I.kIn ⟨o, h1, h2⟩ e1 (hk its rv) (by intro z; cases z) fun tk => ⟨.bl b, H, I.tok tk, rfl, q⟩
end L2

namespace Own
open PySem L2
def top (i : Nat) : Stmt := PySem.Challenge.pw_splithouse_k62_the_tree_of_cuts.main.body.getD i (.Pass ⟨0, 0, 0, 0⟩)
section
variable {P : Program} {w : World} {K : PySem.W.Frag} {mg : Str → Option Value} {base : Heap}
seal PySem.wpAny
abbrev sHas : Stmt := top 1
theorem scHas : FnScope ["some", "column"] ["some", "column"] (defScope sHas) := ⟨rfl, rfl, rfl, by decide +kernel, rfl, by decide +kernel, by decide +kernel⟩
theorem ok_has {f : Addr} {fd : FuncData} (F : Fun K "has_column" "has_column" sHas f fd) : FnOk P w K mg base CX0 1 f fd ["some", "column"] spHas := by
  refine F.ok scHas (fun vs H Q E h => ?_) (fun cdv A outer s H vs Q E hr h => ?_)
  · obtain ⟨a, k, rfl, _⟩ := h
    rfl
  · obtain ⟨a, k, rfl, q⟩ := h
    refine ⟨_, pss_one (ps_ret (pe_cmpR op_eq (pe_op op_and (pe_op op_shr (pv 0) (pv 1)) pe_int) pe_int (nomark _))), ?_⟩
    refine ⟨_, rfl, _, rfl, _, _, rfl, rfl, (by omega), _, _, rfl, rfl, rfl, ?_⟩
    show Q (V.bl (decide (V.int (Builtin.bitAnd ((a : Int) / 2 ^ (k : Int).toNat) 1) = V.int 1))) H
    rw [has_eq]
    exact q
abbrev sCols : Stmt := top 2
theorem scCols : FnScope ["some"] ["some"] (defScope sCols) := ⟨rfl, rfl, rfl, by decide +kernel, rfl, by decide +kernel, by decide +kernel⟩
theorem ok_cols {f fH : Addr} {fd fdH : FuncData} (F : Fun K "columns_of" "columns_of" sCols f fd) (GH : FnOk P w K mg base CX0 1 fH fdH ["some", "column"] spHas) (mH : mg "has_column" = some (.ref fH)) (kH : PySem.W.keepIn K (.ref fH) = true) (bH : Binds K fdH ["some", "column"] []) (zR : mg "range" = none) : FnOk P w K mg base CX0 2 f fd ["some"] spCols := by
  refine F.ok scCols (fun vs H Q E h => ?_) (fun cdv A outer s H vs Q E hr h => ?_)
  · obtain ⟨a, rfl, _⟩ := h
    rfl
  · obtain ⟨a, rfl, ha, q⟩ := h
    refine ⟨_, pss_one (ps_ret (pe_comp (xs := ["column"]) (cs ["some"] (defScope sCols) rfl rfl (by decide +kernel)) rfl (pi_range1 rfl zR (pa_cons (pe_bm0 PySem.F.plainAttrs_int PySem.F.slot_int_bit_length PySem.F.type_int_bit_length mt_bitlen (pv 0)) pa_nil))
      (fun _ _ _ => pg_name (i := 0) (show (["column", "some"] : List Str).Nodup by decide +kernel) rfl (Or.inl rfl)) (fun _ _ _ => pts_one (pt_val (pe_call GH hr rfl mH kH bH .nil pass0 (pa_cons (pv 1) (pa_cons (pv 0) pa_nil))))) (fun _ _ _ => pv 0))), ?_⟩
    refine ⟨_, rfl, rfl, (a : Int), rfl, rfl, _, rfl, (by omega), ?_, ?_⟩
    · have := bitsN_le ha
      show ((bitsN a : Nat) : Int) < _
      omega
    · refine lc_range (lo := 0) (k := ((bitsN a : Nat) : Int).toNat) (n := 1) (fun i acc H' => H' = H ∧ acc = ((List.range i).filter (hasB a)).map vN) ?_ ⟨rfl, rfl⟩ (fun i acc H' hi h => ?_) (fun i acc H' hi h => ?_) (fun acc H' h => ?_)
      · have := bitsN_le ha
        omega
      · rw [h.2, List.length_map]
        exact Nat.le_trans (List.length_filter_le _ _) (by simp)
      · obtain ⟨rfl, rfl⟩ := h
        refine ⟨rfl, _, rfl, _, rfl, a, i, ?_, _, rfl, ?_⟩
        · show [vN a, V.int (0 + (i : Int))] = _
          rw [Int.zero_add]; rfl
        · refine ite2 (fun hc => ?_) (fun hc => ?_)
          · refine ⟨_, rfl, rfl, ?_⟩
            rw [filt_succ, if_pos hc, List.map_append, Int.zero_add]
            rfl
          · refine ⟨rfl, ?_⟩
            rw [filt_succ, if_neg hc, List.append_nil]
      · obtain ⟨rfl, rfl⟩ := h
        intro p hp
        exact q p hp
abbrev sAll : Stmt := top 3
theorem scAll : FnScope ["many"] ["many"] (defScope sAll) := ⟨rfl, rfl, rfl, by decide +kernel, rfl, by decide +kernel, by decide +kernel⟩
theorem ok_all {f : Addr} {fd : FuncData} (F : Fun K "all_of" "all_of" sAll f fd) : FnOk P w K mg base CX0 1 f fd ["many"] spAllOf := by
  refine F.ok scAll (fun vs H Q E h => ?_) (fun cdv A outer s H vs Q E hr h => ?_)
  · obtain ⟨m, rfl, _⟩ := h
    rfl
  · obtain ⟨m, rfl, hm, q⟩ := h
    refine ⟨_, pss_one (ps_ret (pe_op op_sub (pe_op op_shl pe_int (pv 0)) pe_int)), ?_⟩
    refine ⟨_, rfl, _, _, rfl, rfl, cpow1 hm, _, _, rfl, rfl, ?_⟩
    show Q (V.int (1 * 2 ^ (m : Int).toNat - 1)) H
    have pw : 0 < 2 ^ m := Nat.two_pow_pos m
    have e : (1 : Int) * 2 ^ (m : Int).toNat - 1 = ((2 ^ m - 1 : Nat) : Int) := by rw [shl1]; omega
    rw [e]
    exact q
abbrev sWithin : Stmt := top 4
def spWithin : Sp := fun vs H Q _ => ∃ a b : Nat, vs = [.int (a : Int), .int (b : Int)] ∧ Q (.bl (decide (a &&& b = a))) H
theorem scWithin : FnScope ["one", "other"] ["one", "other"] (defScope sWithin) := ⟨rfl, rfl, rfl, by decide +kernel, rfl, by decide +kernel, by decide +kernel⟩
theorem ok_within {f : Addr} {fd : FuncData} (F : Fun K "is_within" "is_within" sWithin f fd) : FnOk P w K mg base CX0 1 f fd ["one", "other"] spWithin := by
  refine F.ok scWithin (fun vs H Q E h => ?_) (fun cdv A outer s H vs Q E hr h => ?_)
  · obtain ⟨a, b, rfl, _⟩ := h
    rfl
  · obtain ⟨a, b, rfl, q⟩ := h
    refine ⟨_, pss_one (ps_ret (pe_cmpR op_eq (pe_op op_and (pv 0) (pv 1)) (pv 0) (nomark _))), ?_⟩
    refine ⟨_, rfl, _, rfl, _, _, rfl, rfl, _, rfl, rfl, ?_⟩
    show Q (V.bl (decide (V.int (Builtin.bitAnd (a : Int) (b : Int)) = V.int (a : Int)))) H
    rw [bitAnd_nat, dec_int]
    have e : (((a &&& b : Nat) : Int) == (a : Int)) = decide (a &&& b = a) := by
      rw [Bool.eq_iff_iff, beq_iff_eq, decide_eq_true_iff]
      exact Int.ofNat_inj
    rw [e]
    exact q
abbrev sMore : Stmt := top 5
theorem scMore : FnScope ["sets", "some", "found", "inner"] ["sets", "some"] (defScope sMore) := ⟨rfl, rfl, rfl, by decide +kernel, rfl, by decide +kernel, by decide +kernel⟩
theorem ok_more {f fC : Addr} {fd fdC : FuncData} (F : Fun K "with_one_more" "with_one_more" sMore f fd) (GC : FnOk P w K mg base CX0 2 fC fdC ["some"] spCols) (mC : mg "columns_of" = some (.ref fC)) (kC : PySem.W.keepIn K (.ref fC) = true) (bC : Binds K fdC ["some"] []) (zsorted : mg "sorted" = none) : FnOk P w K mg base CX0 3 f fd ["sets", "some"] spOneUp := by
  refine F.ok scMore (fun vs H Q E h => ?_) (fun cdv A outer s H vs Q E hr h => ?_)
  · obtain ⟨p, a, i, rfl, _⟩ := h
    rfl
  · obtain ⟨p, a, i, rfl, ha, hi, hp, q⟩ := h
    have nd := scMore.nd
    have hr2 : Room 2 _ := hr.mono (by decide)
    obtain ⟨c7, cb⟩ := cols7 a ha
    have lr := row_len a ha i (by omega)
    refine ⟨_, (pss_cons (ps_set (i := 2) nd rfl (Or.inl rfl) (pe_lst pa_nil))
      (pss_cons (ps_for PassesOwn.never rfl (pi_listK (K := K) rfl (pv 0)) (pg_name (i := 3) nd rfl (Or.inr rfl)) (pss_one (ps_expr (pe_bm PySem.F.plainAttrs_list PySem.F.slot_list_extend PySem.F.type_list_extend mt_extend (pv 2) (pa_cons (pe_comp (xs := ["column"]) (cs ["sets", "some", "found", "inner"] (defScope sMore) rfl rfl (by decide +kernel)) rfl (pi_listK (K := K) rfl (pe_call GC hr2 rfl mC kC bC .nil pass0 (pa_cons (pv 1) pa_nil))) (fun _ _ _ => pg_name (i := 0) (show (["column", "sets", "some", "found", "inner"] : List Str).Nodup by decide +kernel) rfl (Or.inl rfl)) (fun _ _ _ => (pts_one (pt_cmpR op_gtN (pe_op op_shl1 pe_int (pv 0)) (pv 4) (nomark _)))) (fun _ _ _ => (pe_op op_orN (pv 4) (pe_op op_shl1 pe_int (pv 0))))) pa_nil)))))
      (pss_one (ps_ret (pe_callB (call_sortedK (K := K) rfl) (by rfl) zsorted PyProof.Rows.boot_sorted (pa_cons (pv 2) pa_nil)))))), ?_⟩
    refine ⟨Nat.zero_le _, fun fp hfp => ?_⟩
    have s0 := Same.new (o := .lst []) hfp
    refine ⟨_, rfl, p, rfl, ⟨_, SqL.of (s0 _ _ hp)⟩, for_list (K := K) (xs := (rowN a i).map vN) (fun j σ H' => (∃ v3 : Option V, σ = [some (.ref p), some (vN a), some (.ref fp), v3]) ∧ Same H H' ∧ H' fp = some (.lst ((moreN a ((rowN a i).take j)).map vN))) ⟨⟨_, rfl⟩, s0, upd_same⟩ (fun j σ H' _ h => SqL.of (h.2.1 _ _ hp)) ?_ ?_⟩
    · rintro j v σ H1 hv ⟨⟨v3, rfl⟩, s1, hf1⟩
      rw [List.getElem?_map] at hv
      cases ex : (rowN a i)[j]? with
      | none => rw [ex] at hv; cases hv
      | some x =>
        rw [ex] at hv
        obtain rfl := (Option.some.inj hv).symm
        refine ⟨_, rfl, .inl ⟨rfl, _, SqL.of hf1⟩, _, rfl, a, rfl, by omega, fun cp hcp => ⟨cp, rfl, ⟨_, SqL.of upd_same⟩, ?_⟩⟩
        have sC := Same.new (o := .lst ((colsN a).map vN)) hcp
        have hcp2 : (upd H1 cp (.lst ((colsN a).map vN))) cp = some (.lst ((colsN a).map vN)) := upd_same
        generalize upd H1 cp (.lst ((colsN a).map vN)) = H2 at sC hcp2
        refine lc_list (K := K) (xs := (colsN a).map vN) (fun k acc H3 => H3 = H2 ∧ acc = ((((colsN a).take k).filter fun c => decide (x < 2 ^ c)).map fun c => x ||| 2 ^ c).map vN) (by rw [List.length_map]; omega) ⟨rfl, rfl⟩ (fun k acc H3 hk h => ?_) (fun k u acc H3 hu h => ?_) (fun acc H3 h => ?_)
        · obtain ⟨rfl, rfl⟩ := h
          exact ⟨SqL.of hcp2, by rw [List.length_map, List.length_map]; exact Nat.le_trans (List.length_filter_le _ _) (List.length_take_le _ _)⟩
        · obtain ⟨rfl, rfl⟩ := h
          rw [List.getElem?_map] at hu
          cases ec : (colsN a)[k]? with
          | none => rw [ec] at hu; cases hu
          | some c =>
            rw [ec] at hu
            obtain rfl := (Option.some.inj hu).symm
            have c1 : c < 7 := of_decide_eq_true (List.all_eq_true.mp cb c (List.mem_of_getElem? ec))
            have et : ((colsN a).take (k + 1)).filter (fun c => decide (x < 2 ^ c)) = ((colsN a).take k).filter (fun c => decide (x < 2 ^ c)) ++ [c].filter (fun c => decide (x < 2 ^ c)) := by rw [List.take_succ, ec, ← List.filter_append]; rfl
            refine ⟨rfl, _, rfl, c, rfl, rfl, by omega, _, rfl, 2 ^ c, x, rfl, rfl, _, rfl, ite2 (fun hb => ?_) (fun hb => ?_)⟩
            · refine ⟨_, rfl, _, rfl, c, rfl, rfl, by omega, x, 2 ^ c, rfl, rfl, rfl, ?_⟩
              rw [et, List.filter_cons_of_pos (p := fun c => decide (x < 2 ^ c)) hb, List.map_append, List.map_append]; rfl
            · refine ⟨rfl, ?_⟩
              rw [et, List.filter_cons_of_neg (p := fun c => decide (x < 2 ^ c)) hb, List.filter_nil, List.append_nil]
        · obtain ⟨rfl, rfl⟩ := h
          rw [List.length_map, List.take_length]
          intro ep hep
          have sE := Same.new (o := .lst (((((colsN a).filter fun c => decide (x < 2 ^ c)).map fun c => x ||| 2 ^ c)).map vN)) hep
          have hf3 := (sC.trans sE) _ _ hf1
          have lm := moreN_len a ha ((rowN a i).take j)
          have lt : ((rowN a i).take j).length ≤ (rowN a i).length := List.length_take_le' j _
          have lu := upOf_len a x ha
          refine ⟨fp, ep, _, _, rfl, rfl, hf3, upd_same, Nat.le_of_lt (small1000 ?_), ?_⟩
          · rw [List.length_map, List.length_map]
            have : (((colsN a).filter fun c => decide (x < 2 ^ c)).map fun c => x ||| 2 ^ c).length ≤ 7 := lu
            omega
          · refine ⟨⟨_, rfl⟩, (s1.trans (sC.trans sE)).own3 hfp, ?_⟩
            rw [upd_same, moreN_succ ex, List.map_append]
            rfl
    · rintro σ H1 ⟨⟨v3, rfl⟩, s1, hf1⟩
      rw [List.length_map, List.take_length] at hf1
      have mi := map_int (moreN a (rowN a i))
      have l64 : ((moreN a (rowN a i)).map fun (k : Nat) => (k : Int)).length < 64 := by
        rw [List.length_map, (List.isPerm_iff.mp (more_perm a ha i hi)).length_eq]
        have := row_len a ha (i + 1) (by omega)
        omega
      refine ⟨_, rfl, fp, (moreN a (rowN a i)).map fun (k : Nat) => (k : Int), rfl, SqL.of (by rw [mi]; exact hf1), l64, fun l ns' hl pm pw => ?_⟩
      rw [row_is ha hi pm pw, map_int]
      exact q l _ (s1.trans (Same.new hl)) (s1.free hl) upd_same
abbrev sCanUse : Stmt := top 14
theorem scCanUse : FnScope ["rule", "block", "taken"] ["rule", "block"] (defScope sCanUse) := ⟨rfl, rfl, rfl, by decide +kernel, rfl, by decide +kernel, by decide +kernel⟩
theorem ok_canuse {f : Addr} {fd : FuncData} (F : Fun K "can_use" "can_use" sCanUse f fd) : FnOk P w K mg base CX0 1 f fd ["rule", "block"] spUsable := by
  refine F.ok scCanUse (fun vs H Q E h => ?_) (fun cdv A outer s H vs Q E hr h => ?_)
  · obtain ⟨r, st, x, y, b, rfl, _⟩ := h
    rfl
  · obtain ⟨r, st, x, y, b, rfl, hR, q⟩ := h
    have nd := scCanUse.nd
    refine ⟨_, (pss_cons (ps_if (pt_cmpR op_neN (pe_op op_andN (pe_ix (ix_tupK (K := K) rfl) (pv 0) pe_int (fun _ _ => rfl)) (pv 1)) pe_int (nomark _)) (pss_one (ps_ret pe_bl)) pss_nil)
      (pss_cons (ps_set (i := 2) nd rfl (Or.inl rfl) (pe_op op_andN (pe_ix (ix_tupK (K := K) rfl) (pv 0) pe_int (fun _ _ => rfl)) (pv 1)))
      (pss_cons (ps_if (pt_cmpR op_eq (pe_ix (ix_tupK (K := K) rfl) (pv 0) pe_int (fun _ _ => rfl)) pe_str (nomark _)) (pss_one (ps_ret (pe_cmpR op_neN (pv 2) pe_int (nomark _)))) pss_nil)
      (pss_one (ps_ret (pe_and (pe_cmpR op_neN (pv 2) pe_int (nomark _)) (pe_one (pe_cmpR op_neN (pv 2) (pv 1) (nomark _))))))))), ?_⟩
    refine ⟨_, rfl, r, _, _, _, rfl, rfl, SqT.of hR, atI_nat (j := 1) rfl, _, rfl, x, b, rfl, rfl, x &&& b, 0, rfl, rfl, _, rfl, ?_⟩
    cases c1 : decide (x &&& b = 0) with
    | false =>
      refine iteT ?_
      have : usableB st x y b = false := by unfold usableB; rw [c1]; rfl
      rw [this] at q
      exact q
    | true =>
      refine iteF ?_
      refine ⟨_, rfl, r, _, _, _, rfl, rfl, SqT.of hR, atI_nat (j := 2) rfl, _, rfl, y, b, rfl, rfl, ?_⟩
      refine ⟨_, rfl, r, _, _, _, rfl, rfl, SqT.of hR, atI_nat (j := 0) rfl, rfl, _, rfl, ?_⟩
      cases st with
      | true =>
        refine iteT ?_
        have : usableB true x y b = !decide (y &&& b = 0) := by unfold usableB; rw [c1]; simp
        rw [this] at q
        exact ⟨_, rfl, y &&& b, 0, rfl, rfl, q⟩
      | false =>
        refine ite2 (fun hc => ?_) (fun _ => ?_)
        · exact absurd (of_decide_eq_true hc) (by intro z; injection z with z; revert z; decide)
        refine ⟨_, rfl, y &&& b, 0, rfl, rfl, _, rfl, ?_⟩
        cases c2 : decide (y &&& b = 0) with
        | true =>
          refine iteF ?_
          have : usableB false x y b = false := by unfold usableB; rw [c1, c2]; rfl
          rw [this] at q
          exact q
        | false =>
          refine iteT ?_
          have : usableB false x y b = !decide (y &&& b = b) := by unfold usableB; rw [c1, c2]; simp
          rw [this] at q
          exact ⟨_, rfl, _, rfl, y &&& b, b, rfl, rfl, q⟩
abbrev sListed : Stmt := top 15
theorem scListed : FnScope ["block"] ["block"] (defScope sListed) := ⟨rfl, rfl, rfl, by decide +kernel, rfl, by decide +kernel, by decide +kernel⟩
theorem ok_listed {f : Addr} {fd : FuncData} (F : Fun K "listed" "listed" sListed f fd) : FnOk P w K mg base CX0 1 f fd ["block"] spListed := by
  refine F.ok scListed (fun vs H Q E h => ?_) (fun cdv A outer s H vs Q E hr h => ?_)
  · obtain ⟨b, rfl, _⟩ := h
    rfl
  · obtain ⟨b, rfl, q⟩ := h
    refine ⟨_, (pss_cons (ps_if (pt_cmpR op_eqN (pv 0) pe_int (nomark _)) (pss_one (ps_ret (pe_lst pa_nil))) pss_nil)
      (pss_one (ps_ret (pe_lst (pa_cons (pv 0) pa_nil))))), ?_⟩
    refine ⟨_, rfl, b, 0, rfl, rfl, _, rfl, ite2 (fun hc => ?_) (fun hc => ?_)⟩
    · have b0 : b = 0 := of_decide_eq_true hc
      refine ⟨(by show 0 ≤ sizeLine; exact Nat.zero_le _), fun p hp => ?_⟩
      have := q p hp
      rw [if_neg (by omega)] at this
      exact this
    · have b0 : 0 < b := Nat.pos_of_ne_zero fun z => hc (decide_eq_true z)
      refine ⟨_, rfl, (by show 1 ≤ sizeLine; decide), fun p hp => ?_⟩
      have := q p hp
      rw [if_pos b0] at this
      exact this
end
end Own

namespace Own
open PySem L2
section
variable {P : Program} {w : World} {K : PySem.W.Frag} {mg : Str → Option Value} {base : Heap}
seal PySem.wpAny
abbrev sUsed : Stmt := top 16
theorem scUsed : FnScope ["rule", "fixed", "blocks", "at", "taken", "rest"] ["rule", "fixed", "blocks", "at"] (defScope sUsed) := ⟨rfl, rfl, rfl, by decide +kernel, rfl, by decide +kernel, by decide +kernel⟩
theorem ok_used {f fI : Addr} {fd fdI : FuncData} (F : Fun K "used" "used" sUsed f fd) (GI : FnOk P w K mg base CX0 1 fI fdI ["block"] spListed) (mI : mg "listed" = some (.ref fI)) (kI : PySem.W.keepIn K (.ref fI) = true) (bI : Binds K fdI ["block"] []) : FnOk P w K mg base CX0 2 f fd ["rule", "fixed", "blocks", "at"] (spUsed K) := by
  refine F.ok scUsed (fun vs H Q E h => ?_) (fun cdv A outer s H vs Q E hr h => ?_)
  · obtain ⟨r, l, st, x, y, fx, at_, bs, rfl, _⟩ := h
    rfl
  · obtain ⟨r, l, st, x, y, fx, at_, bs, rfl, hR, hl, hat, hb, hdis, q⟩ := h
    have nd := scUsed.nd
    refine ⟨_, (pss_cons (ps_set (i := 4) nd rfl (Or.inl rfl) (pe_op op_andN (pe_ix (ix_listK (K := K) rfl) (pv 2) (pv 3) (fun _ _ => rfl)) (pe_ix (ix_tupK (K := K) rfl) (pv 0) pe_int (fun _ _ => rfl))))
      (pss_cons (ps_set (i := 5) nd rfl (Or.inl rfl) (pe_op op_andInv (pe_ix (ix_listK (K := K) rfl) (pv 2) (pv 3) (fun _ _ => rfl)) (pe_un un_inv (pe_ix (ix_tupK (K := K) rfl) (pv 0) pe_int (fun _ _ => rfl)))))
      (pss_cons (ps_if (pt_cmpR op_eq (pe_ix (ix_tupK (K := K) rfl) (pv 0) pe_int (fun _ _ => rfl)) pe_str (nomark _)) (pss_one (ps_ret (pe_tup (pa_cons (pe_op op_orN (pv 1) (pv 4)) (pa_cons (pe_op op_cat (pe_op op_cat (pe_slice sl_list (pv 2) po_none (po_some (pv 3))) (pe_call GI hr rfl mI kI bI .nil pass0 (pa_cons (pv 5) pa_nil))) (pe_slice sl_list (pv 2) (po_some (pe_op op_addN (pv 3) pe_int)) po_none)) pa_nil))))) pss_nil)
      (pss_one (ps_ret (pe_tup (pa_cons (pv 1) (pa_cons (pe_op op_cat (pe_op op_cat (pe_slice sl_list (pv 2) po_none (po_some (pv 3))) (pe_lst (pa_cons (pv 4) (pa_cons (pv 5) pa_nil)))) (pe_slice sl_list (pv 2) (po_some (pe_op op_addN (pv 3) pe_int)) po_none)) pa_nil)))))))), ?_⟩
    have eb : bs[at_]? = some (bs.getD at_ 0) := by rw [List.getD_eq_getElem?_getD, List.getElem?_eq_getElem hat]; rfl
    have ebv : (bs.map vN)[at_]? = some (vN (bs.getD at_ 0)) := by rw [List.getElem?_map, eb]; rfl
    refine ⟨_, rfl, _, rfl, l, _, _, _, rfl, rfl, hl, atI_nat ebv, _, rfl, r, _, _, _, rfl, rfl, SqT.of hR, atI_nat (j := 2) rfl, bs.getD at_ 0, y, rfl, rfl, ?_⟩
    refine ⟨_, rfl, _, rfl, l, _, _, _, rfl, rfl, hl, atI_nat ebv, _, rfl, r, _, _, _, rfl, rfl, SqT.of hR, atI_nat (j := 2) rfl, (y : Int), rfl, bs.getD at_ 0, y, rfl, rfl, ?_⟩
    refine ⟨_, rfl, r, _, _, _, rfl, rfl, SqT.of hR, atI_nat (j := 0) rfl, rfl, _, rfl, ?_⟩
    have lt : (List.take at_ (bs.map vN)).length ≤ 200 := by rw [List.length_take, List.length_map]; omega
    have ld : (List.drop (at_ + 1) (bs.map vN)).length ≤ 200 := by rw [List.length_drop, List.length_map]; omega
    have szc : ∀ n : Nat, n ≤ 1000 → n ≤ sizeLine := fun n h => Nat.le_of_lt (small1000 h)
    have e1 : cutV (bs.map vN) none (some (at_ : Int)) = List.take at_ (bs.map vN) := cut_take _ _
    have e2 : cutV (bs.map vN) (some ((at_ + 1 : Nat) : Int)) none = List.drop (at_ + 1) (bs.map vN) := cut_drop _ _
    cases st with
    | true =>
      refine iteT ?_
      have eo : behindFx true y fx bs at_ = fx ||| inN y bs at_ := by
        unfold behindFx
        rw [if_pos rfl]
        exact (or_add fx (inN y bs at_) (dis_sub hdis (sub_in _ y))).symm
      refine ⟨_, rfl, _, rfl, fx, inN y bs at_, rfl, rfl, ?_⟩
      refine ⟨_, rfl, _, rfl, (at_ : Int), rfl, l, _, rfl, hl, fun p1 hp1 => ?_⟩
      rw [e1]
      have s1 := Same.new (o := .lst (List.take at_ (bs.map vN))) hp1
      refine ⟨_, rfl, outN y bs at_, rfl, fun p3 hp3 => ?_⟩
      have s3 := Same.new (o := .lst ((if 0 < outN y bs at_ then [outN y bs at_] else []).map vN)) hp3
      have l3 : ((if 0 < outN y bs at_ then [outN y bs at_] else []).map vN).length ≤ 1 := by split <;> simp
      refine ⟨p1, p3, List.take at_ (bs.map vN), (if 0 < outN y bs at_ then [outN y bs at_] else []).map vN, rfl, rfl, s3 _ _ upd_same, upd_same, szc _ (by omega), fun p4 hp4 => ?_⟩
      have s4 := Same.new (o := .lst (List.take at_ (bs.map vN) ++ (if 0 < outN y bs at_ then [outN y bs at_] else []).map vN)) hp4
      have s14 := (s1.trans s3).trans s4
      refine ⟨_, rfl, _, rfl, at_, 1, rfl, rfl, ((at_ + 1 : Nat) : Int), rfl, l, _, rfl, s14.seq hl, fun p5 hp5 => ?_⟩
      rw [e2]
      have s5 := Same.new (o := .lst (List.drop (at_ + 1) (bs.map vN))) hp5
      refine ⟨p4, p5, List.take at_ (bs.map vN) ++ (if 0 < outN y bs at_ then [outN y bs at_] else []).map vN, List.drop (at_ + 1) (bs.map vN), rfl, rfl, s5 _ _ upd_same, upd_same, szc _ (by rw [List.length_append]; omega), fun p6 hp6 => ?_⟩
      have e6 : List.take at_ (bs.map vN) ++ (if 0 < outN y bs at_ then [outN y bs at_] else []).map vN ++ List.drop (at_ + 1) (bs.map vN) = (behindBs true y bs at_).map vN := by
        unfold behindBs
        rw [if_pos rfl, List.map_append, List.map_append, List.map_take, List.map_drop]
      rw [e6]
      have s6 := Same.new (o := .lst ((behindBs true y bs at_).map vN)) hp6
      refine ⟨(by show 2 ≤ sizeLine; decide), fun t ht => ?_⟩
      have s7 := Same.new (o := .tup [vN (fx ||| inN y bs at_), V.ref p6]) ht
      have s16 := (s14.trans s5).trans s6
      exact q t p6 _ (s16.trans s7) (s16.none ht) (by rw [eo]; exact upd_same) ((s14.trans s5).none hp6) (s7 _ _ upd_same)
    | false =>
      refine ite2 (fun hc => ?_) (fun _ => ?_)
      · exact absurd (of_decide_eq_true hc) (by intro z; injection z with z; revert z; decide)
      refine ⟨_, rfl, ?_⟩
      refine ⟨_, rfl, _, rfl, (at_ : Int), rfl, l, _, rfl, hl, fun p1 hp1 => ?_⟩
      rw [e1]
      have s1 := Same.new (o := .lst (List.take at_ (bs.map vN))) hp1
      refine ⟨_, rfl, _, rfl, (by show 2 ≤ sizeLine; decide), fun p3 hp3 => ?_⟩
      have s3 := Same.new (o := .lst [vN (inN y bs at_), vN (outN y bs at_)]) hp3
      refine ⟨p1, p3, List.take at_ (bs.map vN), [vN (inN y bs at_), vN (outN y bs at_)], rfl, rfl, s3 _ _ upd_same, upd_same, szc _ (by show _ + 2 ≤ 1000; omega), fun p4 hp4 => ?_⟩
      have s4 := Same.new (o := .lst (List.take at_ (bs.map vN) ++ [vN (inN y bs at_), vN (outN y bs at_)])) hp4
      have s14 := (s1.trans s3).trans s4
      refine ⟨_, rfl, _, rfl, at_, 1, rfl, rfl, ((at_ + 1 : Nat) : Int), rfl, l, _, rfl, s14.seq hl, fun p5 hp5 => ?_⟩
      rw [e2]
      have s5 := Same.new (o := .lst (List.drop (at_ + 1) (bs.map vN))) hp5
      refine ⟨p4, p5, List.take at_ (bs.map vN) ++ [vN (inN y bs at_), vN (outN y bs at_)], List.drop (at_ + 1) (bs.map vN), rfl, rfl, s5 _ _ upd_same, upd_same, szc _ (by rw [List.length_append]; show _ + 2 + _ ≤ 1000; omega), fun p6 hp6 => ?_⟩
      have e6 : List.take at_ (bs.map vN) ++ [vN (inN y bs at_), vN (outN y bs at_)] ++ List.drop (at_ + 1) (bs.map vN) = (behindBs false y bs at_).map vN := by
        unfold behindBs
        rw [if_neg Bool.false_ne_true, List.map_append, List.map_append, List.map_take, List.map_drop]
        rfl
      rw [e6]
      have s6 := Same.new (o := .lst ((behindBs false y bs at_).map vN)) hp6
      refine ⟨(by show 2 ≤ sizeLine; decide), fun t ht => ?_⟩
      have s7 := Same.new (o := .tup [vN fx, V.ref p6]) ht
      have s16 := (s14.trans s5).trans s6
      exact q t p6 _ (s16.trans s7) (s16.none ht) upd_same ((s14.trans s5).none hp6) (s7 _ _ upd_same)
abbrev sBegun : Stmt := top 17
theorem scBegun : FnScope ["many", "some"] ["many", "some"] (defScope sBegun) := ⟨rfl, rfl, rfl, by decide +kernel, rfl, by decide +kernel, by decide +kernel⟩
theorem ok_begun {f fI fAL : Addr} {fd fdI fdAL : FuncData} (F : Fun K "begun" "begun" sBegun f fd) (GI : FnOk P w K mg base CX0 1 fI fdI ["block"] spListed) (mI : mg "listed" = some (.ref fI)) (kI : PySem.W.keepIn K (.ref fI) = true) (bI : Binds K fdI ["block"] []) (GAL : FnOk P w K mg base CX0 1 fAL fdAL ["many"] spAllOf) (mAL : mg "all_of" = some (.ref fAL)) (kAL : PySem.W.keepIn K (.ref fAL) = true) (bAL : Binds K fdAL ["many"] []) : FnOk P w K mg base CX0 2 f fd ["many", "some"] (spBegun K) := by
  refine F.ok scBegun (fun vs H Q E h => ?_) (fun cdv A outer s H vs Q E hr h => ?_)
  · obtain ⟨m, x, rfl, _⟩ := h
    rfl
  · obtain ⟨m, x, rfl, m7, hx, q⟩ := h
    have hr1 : Room 1 _ := hr.mono (by decide)
    refine ⟨_, (pss_one (ps_ret (pe_tup (pa_cons (pv 1) (pa_cons (pe_call GI hr1 rfl mI kI bI .nil pass0 (pa_cons (pe_op op_andInv (pe_call GAL hr1 rfl mAL kAL bAL .nil pass0 (pa_cons (pv 0) pa_nil)) (pe_un un_inv (pv 1))) pa_nil)) pa_nil))))), ?_⟩
    refine ⟨_, rfl, _, rfl, m, rfl, by omega, _, rfl, (x : Int), rfl, 2 ^ m - 1, x, rfl, rfl, 2 ^ m - 1 - ((2 ^ m - 1) &&& x), rfl, fun p hp => ?_⟩
    have ea : (2 ^ m - 1) &&& x = x := by rw [Nat.and_comm, Nat.and_two_pow_sub_one_eq_mod, Nat.mod_eq_of_lt hx]
    have e : (if 0 < 2 ^ m - 1 - ((2 ^ m - 1) &&& x) then [2 ^ m - 1 - ((2 ^ m - 1) &&& x)] else []) = beginBs m x := by
      rw [ea]
      unfold beginBs
      by_cases h : x < 2 ^ m - 1
      · rw [if_pos h, if_pos (by omega)]
      · rw [if_neg h, if_neg (by omega)]
    rw [e]
    have s1 := Same.new (o := .lst ((beginBs m x).map vN)) hp
    refine ⟨(by show 2 ≤ sizeLine; decide), fun t ht => ?_⟩
    have s2 := Same.new (o := .tup [vN x, V.ref p]) ht
    exact q t p _ (s1.trans s2) (s1.none ht) upd_same hp (s2 _ _ upd_same)
abbrev sFirst : Stmt := top 18
theorem scFirst : FnScope ["rules", "blocks", "number", "rule", "at", "block"] ["rules", "blocks"] (defScope sFirst) := ⟨rfl, rfl, rfl, by decide +kernel, rfl, by decide +kernel, by decide +kernel⟩
theorem ok_first {f fCU : Addr} {fd fdCU : FuncData} (F : Fun K "first_use" "first_use" sFirst f fd) (GCU : FnOk P w K mg base CX0 1 fCU fdCU ["rule", "block"] spUsable) (mCU : mg "can_use" = some (.ref fCU)) (kCU : PySem.W.keepIn K (.ref fCU) = true) (bCU : Binds K fdCU ["rule", "block"] []) (zenumerate : mg "enumerate" = none) : FnOk P w K mg base CX0 2 f fd ["rules", "blocks"] (spFirstUse K) := by
  refine F.ok scFirst (fun vs H Q E h => ?_) (fun cdv A outer s H vs Q E hr h => ?_)
  · obtain ⟨rl, bl, rs, bs, m, rfl, _⟩ := h
    rfl
  · obtain ⟨rl, bl, rs, bs, m, rfl, hrl, hRs, hbl, lr, lb, qn, qs⟩ := h
    have nd := scFirst.nd
    have hr : Room 1 _ := hr.mono (by decide)
    have lrm : (rs.map fun r => V.ref r.r).length = rs.length := List.length_map ..
    have lbm : (bs.map vN).length = bs.length := List.length_map ..
    refine ⟨_, (pss_cons (ps_for PassesOwn.never rfl (pi_enum (K := K) rfl rfl zenumerate (pa_cons (pv 0) pa_nil)) (pg_tup rfl (pgs_cons (pg_name (i := 2) nd rfl (Or.inl rfl)) (pgs_cons (pg_name (i := 3) nd rfl (Or.inl rfl)) pgs_nil))) (pss_one (ps_for PassesOwn.never rfl (pi_enum (K := K) rfl rfl zenumerate (pa_cons (pv 1) pa_nil)) (pg_tup rfl (pgs_cons (pg_name (i := 4) nd rfl (Or.inl rfl)) (pgs_cons (pg_name (i := 5) nd rfl (Or.inl rfl)) pgs_nil))) (pss_one (ps_if (pt_val (pe_call GCU hr rfl mCU kCU bCU .nil pass0 (pa_cons (pv 3) (pa_cons (pv 5) pa_nil)))) (pss_one (ps_ret (pe_tup (pa_cons (pv 2) (pa_cons (pv 4) pa_nil))))) pss_nil)))))
      (pss_one (ps_ret pe_non))), ?_⟩
    refine ⟨_, rfl, rl, _, rfl, hrl, for_enum (xs := rs.map fun r => V.ref r.r) (fun i σ H' => (∃ v2 v3 v4 v5, σ = [some (.ref rl), some (.ref bl), v2, v3, v4, v5]) ∧ Same H H' ∧ usesN (rs.map Rl.d) bs i = []) ⟨⟨none, none, none, none, rfl⟩, Same.refl _, rfl⟩ (fun i σ H' _ h => h.2.1.seq hrl) ?_ ?_⟩
    · rintro i v σ H0 t0 hv ⟨⟨v2, v3, v4, v5, rfl⟩, s0, u0⟩ ht0
      rw [List.getElem?_map] at hv
      cases er : rs[i]? with
      | none => rw [er] at hv; cases hv
      | some r =>
        rw [er] at hv
        obtain rfl := (Option.some.inj hv).symm
        have hi : i < rs.length := (List.getElem?_eq_some_iff.mp er).1
        have hrm := List.mem_of_getElem? er
        have s1 := s0.trans (Same.new (o := .tup [.int (i : Int), V.ref r.r]) ht0)
        refine ⟨t0, _, rfl, SqT.of upd_same, rfl, _, _, rfl, _, _, rfl, rfl, ?_⟩
        generalize upd H0 t0 (.tup [.int (i : Int), V.ref r.r]) = H1 at s1
        refine ⟨_, rfl, bl, _, rfl, s1.seq hbl, for_enum (xs := bs.map vN) (fun j σ H' => (∃ v4 v5, σ = [some (.ref rl), some (.ref bl), some (vN i), some (.ref r.r), v4, v5]) ∧ Same H H' ∧ usesR r.d i bs j = []) ⟨⟨_, _, rfl⟩, s1, rfl⟩ (fun j σ H' _ h => h.2.1.seq hbl) ?_ ?_⟩
        · rintro j v σ H2 t2 hv' ⟨⟨v4', v5', rfl⟩, s2, u2⟩ ht2
          rw [List.getElem?_map] at hv'
          cases eb : bs[j]? with
          | none => rw [eb] at hv'; cases hv'
          | some b =>
            rw [eb] at hv'
            obtain rfl := (Option.some.inj hv').symm
            have hj : j < bs.length := (List.getElem?_eq_some_iff.mp eb).1
            have ebd : bs.getD j 0 = b := by rw [List.getD_eq_getElem?_getD, eb]; rfl
            have s3 := s2.trans (Same.new (o := .tup [.int (j : Int), vN b]) ht2)
            refine ⟨t2, _, rfl, SqT.of upd_same, rfl, _, _, rfl, _, _, rfl, rfl, ?_⟩
            generalize upd H2 t2 (.tup [.int (j : Int), vN b]) = H3 at s3
            refine ⟨_, rfl, _, rfl, r.r, r.st, r.x, r.y, b, rfl, s3 _ _ (hRs r hrm).1, _, rfl, ite2 (fun hu => ?_) (fun hu => ?_)⟩
            · obtain ⟨us, eu⟩ := uses_first (n := rs.length) u0 (by rw [rd_at er]; exact u2) hi hj (by rw [rd_at er, ebd]; exact hu)
              refine ⟨_, rfl, _, rfl, (by show 2 ≤ sizeLine; decide), fun t ht => ?_⟩
              exact qs (i, j) us t _ (s3.trans (Same.new ht)) eu (s3.none ht) upd_same
            · refine ⟨⟨_, _, rfl⟩, s3, ?_⟩
              rw [usesR_succ, u2, ebd, if_neg (show ¬ usB r.d b = true from hu)]; rfl
        · rintro σ H2 ⟨⟨v4', v5', rfl⟩, s2, u2⟩
          rw [lbm] at u2
          refine ⟨⟨_, _, _, _, rfl⟩, s2, ?_⟩
          rw [usesN_succ, u0, rd_at er, u2]; rfl
    · rintro σ H' ⟨⟨v2, v3, v4, v5, rfl⟩, s', u'⟩
      rw [lrm] at u'
      exact qn H' s' u'
abbrev sUnf : Stmt := top 19
theorem scUnf : FnScope ["many", "rules", "some", "now", "steps", "use"] ["many", "rules", "some"] (defScope sUnf) := ⟨rfl, rfl, rfl, by decide +kernel, rfl, by decide +kernel, by decide +kernel⟩
theorem ok_unf {f fBG fFU fUD : Addr} {fd fdBG fdFU fdUD : FuncData} (F : Fun K "unfolded" "unfolded" sUnf f fd) (GBG : FnOk P w K mg base CX0 2 fBG fdBG ["many", "some"] (spBegun K)) (mBG : mg "begun" = some (.ref fBG)) (kBG : PySem.W.keepIn K (.ref fBG) = true) (bBG : Binds K fdBG ["many", "some"] []) (GFU : FnOk P w K mg base CX0 2 fFU fdFU ["rules", "blocks"] (spFirstUse K)) (mFU : mg "first_use" = some (.ref fFU)) (kFU : PySem.W.keepIn K (.ref fFU) = true) (bFU : Binds K fdFU ["rules", "blocks"] []) (GUD : FnOk P w K mg base CX0 2 fUD fdUD ["rule", "fixed", "blocks", "at"] (spUsed K)) (mUD : mg "used" = some (.ref fUD)) (kUD : PySem.W.keepIn K (.ref fUD) = true) (bUD : Binds K fdUD ["rule", "fixed", "blocks", "at"] []) : FnOk P w K mg base CX0 3 f fd ["many", "rules", "some"] (spUnfolded K) := by
  refine F.ok scUnf (fun vs H Q E h => ?_) (fun cdv A outer s H vs Q E hr h => ?_)
  · obtain ⟨m, x, rl, rs, rfl, _⟩ := h
    rfl
  · obtain ⟨m, x, rl, rs, rfl, m7, hx, hrl, hRs, lr, qq⟩ := h
    have nd := scUnf.nd
    have hr2 : Room 2 _ := hr.mono (by decide)
    refine ⟨_, (pss_cons (ps_set (i := 3) nd rfl (Or.inl rfl) (pe_call GBG hr2 rfl mBG kBG bBG .nil pass0 (pa_cons (pv 0) (pa_cons (pv 2) pa_nil)))) (pss_cons (ps_set (i := 4) nd rfl (Or.inl rfl) (pe_lst pa_nil)) (pss_cut (fun σ H' => ∃ n, UInv H m x rl rs n σ H') (ps_set (i := 5) nd rfl (Or.inl rfl) (pe_call GFU hr2 rfl mFU kFU bFU .nil pass0 (pa_cons (pv 1) (pa_cons (pe_ix (ix_tupK (K := K) rfl) (pv 3) pe_int (fun _ _ => rfl)) pa_nil)))) (pss_cons (ps_while PassesOwn.never (pt_cmpR op_notN (pv 5) pe_non (nomark _)) (pss_cons (ps_expr (pe_bm PySem.F.plainAttrs_list PySem.F.slot_list_append PySem.F.type_list_append mt_append (pv 4) (pa_cons (pe_tup (pa_cons (pe_ix (ix_tupK (K := K) rfl) (pv 5) pe_int (fun _ _ => rfl)) (pa_cons (pe_ix (ix_listK (K := K) rfl) (pe_ix (ix_tupK (K := K) rfl) (pv 3) pe_int (fun _ _ => rfl)) (pe_ix (ix_tupK (K := K) rfl) (pv 5) pe_int (fun _ _ => rfl)) (fun _ _ => rfl)) pa_nil))) pa_nil)))
      (pss_cons (ps_set (i := 3) nd rfl (Or.inl rfl) (pe_call GUD hr2 rfl mUD kUD bUD .nil pass0 (pa_cons (pe_ix (ix_listK (K := K) rfl) (pv 1) (pe_ix (ix_tupK (K := K) rfl) (pv 5) pe_int (fun _ _ => rfl)) (fun _ _ => rfl)) (pa_cons (pe_ix (ix_tupK (K := K) rfl) (pv 3) pe_int (fun _ _ => rfl)) (pa_cons (pe_ix (ix_tupK (K := K) rfl) (pv 3) pe_int (fun _ _ => rfl)) (pa_cons (pe_ix (ix_tupK (K := K) rfl) (pv 5) pe_int (fun _ _ => rfl)) pa_nil))))))
      (pss_one (ps_set (i := 5) nd rfl (Or.inl rfl) (pe_call GFU hr2 rfl mFU kFU bFU .nil pass0 (pa_cons (pv 1) (pa_cons (pe_ix (ix_tupK (K := K) rfl) (pv 3) pe_int (fun _ _ => rfl)) pa_nil)))))))) (pss_one (ps_ret (pe_tup (pa_cons (pe_ix (ix_tupK (K := K) rfl) (pv 3) pe_int (fun _ _ => rfl)) (pa_cons (pe_ix (ix_tupK (K := K) rfl) (pv 3) pe_int (fun _ _ => rfl)) (pa_cons (pv 4) pa_nil)))))))))), ?_⟩
    refine ⟨_, rfl, _, rfl, m, x, rfl, m7, hx, fun t0 p0 H1 s1 ht0 ht1 hp0 hp1 => ?_⟩
    refine ⟨(by show 0 ≤ sizeLine; exact Nat.zero_le _), fun qa hqa => ?_⟩
    have c2 := UCore.begin (rs := rs) m7 hx s1 hp0 hp1 hqa
    have ht2 := Same.new (o := .lst []) hqa _ _ ht1
    generalize upd H1 qa (.lst []) = H2 at c2 ht2
    refine ⟨⟨_, rfl, _, rfl, t0, _, _, _, rfl, rfl, SqT.of ht2, atI_nat (j := 1) rfl, rl, p0, rs, beginBs m x, m, rfl, c2.same.seq hrl, hRs.same c2.same, SqL.of c2.hp, lr, (by have := c2.good.len m7; exact Nat.le_trans this (by decide)), fun H3 s3 hu => ?_, fun u us t5 H3 s3 hu ht5 ht5' => ?_⟩, ?_⟩
    · exact ⟨_, _, t0, p0, qa, [], .non, rfl, rfl, s3 _ _ ht2, c2.mono s3, .inl ⟨hu, rfl⟩⟩
    · exact ⟨_, _, t0, p0, qa, [], .ref t5, rfl, rfl, s3 _ _ ht2, c2.mono s3, .inr ⟨u, us, t5, hu, rfl, ht5'⟩⟩
    clear c2 ht2 ht1 hp1 hp0 ht0 s1 hqa
    rintro σ H3 ⟨n0, hinv⟩
    refine ⟨UInv H m x rl rs, ⟨n0, hinv⟩, ?_⟩
    rintro n _ H4 ⟨s, t, p, qa, sw, v, rfl, en, ht, c, hv⟩
    refine ⟨_, rfl, rfl, _, rfl, ?_⟩
    rcases hv with ⟨hu, rfl⟩ | ⟨u, us, t5, hu, rfl, ht5⟩
    · refine iteF ?_
      refine ⟨_, rfl, t, _, _, _, rfl, rfl, SqT.of ht, atI_nat (j := 0) rfl, _, rfl, t, _, _, _, rfl, rfl, SqT.of ht, atI_nat (j := 1) rfl, _, rfl, (by show 3 ≤ sizeLine; decide), fun tt htt => ?_⟩
      have s5 := Same.new (o := .tup [vN s.fx, V.ref p, V.ref qa]) htt
      have c5 := c.mono s5
      exact qq tt p qa s sw _ (c.run s (.done (by rw [rd_len]; exact hu))) c5.same (c.same.none htt) upd_same c5.hp0 c5.hp c5.hq0 c5.hq c5.st c5.est (by have := c5.slen; omega) c5.npq
    · refine iteT ?_
      refine ⟨_, fun _ _ h => h, ?_⟩
      obtain ⟨r, er, erd, hu2, ebu, hR⟩ := uses_at (rs := rs) (u := u) (by rw [hu]; exact List.mem_cons_self ..) (hRs.same c.same)
      have ebv : (s.bs.map vN)[u.2]? = some (vN (s.bs.getD u.2 0)) := by rw [List.getElem?_map, ebu]; rfl
      have erv : (rs.map fun r => V.ref r.r)[u.1]? = some (V.ref r.r) := by rw [List.getElem?_map, er]; rfl
      refine ⟨_, rfl, .inl ⟨rfl, _, SqL.of c.hq⟩, _, rfl, t5, _, _, _, rfl, rfl, SqT.of ht5, atI_nat (j := 0) rfl, _, rfl, t, _, _, _, rfl, rfl, SqT.of ht, atI_nat (j := 1) rfl, _, rfl, t5, _, _, _, rfl, rfl, SqT.of ht5, atI_nat (j := 1) rfl, p, _, _, _, rfl, rfl, SqL.of c.hp, atI_nat ebv, (by show 2 ≤ sizeLine; decide), fun w hw => ?_⟩
      have sw1 := Same.new (o := .tup [vN u.1, vN (s.bs.getD u.2 0)]) hw
      have c1 := c.mono sw1
      have hw1 : (upd H4 w (.tup [vN u.1, vN (s.bs.getD u.2 0)])) w = some (.tup [vN u.1, vN (s.bs.getD u.2 0)]) := upd_same
      have ht1 := sw1 _ _ ht
      have ht51 := sw1 _ _ ht5
      generalize upd H4 w (.tup [vN u.1, vN (s.bs.getD u.2 0)]) = H5 at sw1 c1 hw1 ht1 ht51
      refine ⟨qa, _, _, rfl, rfl, c1.hq, (by rw [List.length_map]; exact small1000 (by have := c1.slen; omega)), ?_⟩
      have sq : Same H (upd H5 qa (.lst ((sw.map fun w => V.ref w.1) ++ [V.ref w]))) := c1.same.own c1.hq0
      have ht2 : (upd H5 qa (.lst ((sw.map fun w => V.ref w.1) ++ [V.ref w]))) t = some (.tup [vN s.fx, .ref p]) := by rw [upd_ne (ne_of ht1 c1.hq (by intro z; cases z))]; exact ht1
      have ht52 : (upd H5 qa (.lst ((sw.map fun w => V.ref w.1) ++ [V.ref w]))) t5 = some (.tup [vN u.1, vN u.2]) := by rw [upd_ne (ne_of ht51 c1.hq (by intro z; cases z))]; exact ht51
      have hp2 : (upd H5 qa (.lst ((sw.map fun w => V.ref w.1) ++ [V.ref w]))) p = some (.lst (s.bs.map vN)) := by rw [upd_ne c1.npq]; exact c1.hp
      have hdis : s.fx &&& s.bs.getD u.2 0 = 0 := c.good.dis _ (List.mem_of_getElem? ebu)
      refine ⟨_, rfl, _, rfl, t5, _, _, _, rfl, rfl, SqT.of ht52, atI_nat (j := 0) rfl, rl, _, _, _, rfl, rfl, sq.seq hrl, atI_nat erv, _, rfl, t, _, _, _, rfl, rfl, SqT.of ht2, atI_nat (j := 0) rfl, _, rfl, t, _, _, _, rfl, rfl, SqT.of ht2, atI_nat (j := 1) rfl, _, rfl, t5, _, _, _, rfl, rfl, SqT.of ht52, atI_nat (j := 1) rfl, r.r, p, r.st, r.x, r.y, s.fx, u.2, s.bs, rfl, sq _ _ (hRs r (List.mem_of_getElem? er)).1, SqL.of hp2, hu2, (by have := c.good.len m7; omega), hdis, fun t' p' H6 s6 ht' ht6 hp' hp6 => ?_⟩
      have efx : (stepS (rs.map Rl.d) s u).fx = behindFx r.st r.y s.fx s.bs u.2 := by unfold stepS; rw [erd]; rfl
      have ebs : (stepS (rs.map Rl.d) s u).bs = behindBs r.st r.y s.bs u.2 := by unfold stepS; rw [erd]; rfl
      rw [← efx] at ht6
      rw [← ebs] at hp6
      obtain ⟨c6, mu⟩ := c1.next (w := (w, (u.1, s.bs.getD u.2 0))) hu rfl hw1 s6 hp' hp6
      refine ⟨_, rfl, _, rfl, t', _, _, _, rfl, rfl, SqT.of ht6, atI_nat (j := 1) rfl, rl, p', rs, (stepS (rs.map Rl.d) s u).bs, m, rfl, c6.same.seq hrl, hRs.same c6.same, SqL.of c6.hp, lr, (by have := c6.good.len m7; omega), fun H7 s7 hu' => ?_, fun u' us' t5' H7 s7 hu' ht7 ht7' => ?_⟩
      · exact ⟨_, by rw [en]; exact mu, _, t', p', qa, _, .non, rfl, rfl, s7 _ _ ht6, c6.mono s7, .inl ⟨hu', rfl⟩⟩
      · exact ⟨_, by rw [en]; exact mu, _, t', p', qa, _, .ref t5', rfl, rfl, s7 _ _ ht6, c6.mono s7, .inr ⟨u', us', t5', hu', rfl, ht7'⟩⟩
end
end Own

namespace Own
open PySem L2
section
variable {P : Program} {w : World} {K : PySem.W.Frag} {mg : Str → Option Value} {base : Heap}
seal PySem.wpAny
abbrev sAgain : Stmt := top 22
theorem scAgain : FnScope ["many", "rules", "part", "some", "told", "gained", "pieces"] ["many", "rules", "part", "some"] (defScope sAgain) := ⟨rfl, rfl, rfl, by decide +kernel, rfl, by decide +kernel, by decide +kernel⟩
theorem ok_again {f fUN fIW : Addr} {fd fdUN fdIW : FuncData} (F : Fun K "told_again" "told_again" sAgain f fd) (GUN : FnOk P w K mg base CX0 3 fUN fdUN ["many", "rules", "some"] (spUnfolded K)) (mUN : mg "unfolded" = some (.ref fUN)) (kUN : PySem.W.keepIn K (.ref fUN) = true) (bUN : Binds K fdUN ["many", "rules", "some"] []) (GIW : FnOk P w K mg base CX0 1 fIW fdIW ["one", "other"] spWithin) (mIW : mg "is_within" = some (.ref fIW)) (kIW : PySem.W.keepIn K (.ref fIW) = true) (bIW : Binds K fdIW ["one", "other"] []) (zlen : mg "len" = none) : FnOk P w K mg base CX0 4 f fd ["many", "rules", "part", "some"] (spAgain K) := by
  refine F.ok scAgain (fun vs H Q E h => ?_) (fun cdv A outer s H vs Q E hr h => ?_)
  · obtain ⟨m, p, x, rl, rs, rfl, _⟩ := h
    rfl
  · obtain ⟨m, p, x, rl, rs, rfl, m7, hx, hrl, hRs, lr, q⟩ := h
    have nd := scAgain.nd
    have hr1 : Room 1 _ := hr.mono (by decide)
    have hr3 : Room 3 _ := hr.mono (by decide)
    refine ⟨_, (pss_cons (ps_set (i := 4) nd rfl (Or.inl rfl) (pe_call GUN hr3 rfl mUN kUN bUN .nil pass0 (pa_cons (pv 0) (pa_cons (pv 1) (pa_cons (pv 3) pa_nil)))))
      (pss_cons (ps_if (pt_val (pe_call GIW hr1 rfl mIW kIW bIW .nil pass0 (pa_cons (pv 2) (pa_cons (pe_ix (ix_tupK (K := K) rfl) (pv 4) pe_int (fun _ _ => rfl)) pa_nil)))) (pss_one (ps_ret pe_non)) pss_nil)
      (pss_cons (ps_set (i := 5) nd rfl (Or.inl rfl) (pe_op op_andInv (pe_op op_andN (pv 2) (pe_ix (ix_tupK (K := K) rfl) (pv 4) pe_int (fun _ _ => rfl))) (pe_un un_inv (pv 3))))
      (pss_cons (ps_if (pt_cmpR op_neN (pv 5) pe_int (nomark _)) (pss_one (ps_ret (pv 5))) pss_nil)
      (pss_cons (ps_comp (i := 6) (xs := ["block"]) (cs ["many", "rules", "part", "some", "told", "gained", "pieces"] (defScope sAgain) rfl rfl (by decide +kernel)) rfl nd rfl rfl (pi_listK (K := K) rfl (pe_ix (ix_tupK (K := K) rfl) (pv 4) pe_int (fun _ _ => rfl))) (fun _ _ _ => pg_name (i := 0) (show (["block", "many", "rules", "part", "some", "told", "gained", "pieces"] : List Str).Nodup by decide +kernel) rfl (Or.inl rfl)) (fun _ _ _ => (pts_one (pt_cmpR op_neN (pe_op op_andN (pv 0) (pv 3)) pe_int (nomark _)))) (fun _ _ _ => (pe_op op_andN (pv 0) (pv 3))))
      (pss_cons (ps_if (pt_cmpR op_gtN (pe_callB (call_lenK (K := K) rfl) (by rfl) zlen PySem.boot_len (pa_cons (pv 6) pa_nil)) pe_int (nomark _)) (pss_one (ps_ret (pe_ix (ix_listK (K := K) rfl) (pv 6) pe_int (fun _ _ => rfl)))) pss_nil)
      (pss_one (ps_ret pe_non)))))))), ?_⟩
    refine ⟨_, rfl, _, rfl, _, rfl, m, x, rl, rs, rfl, m7, hx, hrl, hRs, lr, fun t pb qb s sw H1 R s1 ht0 ht hp0 hp _ _ _ _ _ _ => ?_⟩
    have eU := R.unfF
    have G := (R.good (Good.begin hx)).1
    have ea : againN m (rs.map Rl.d) p x = if p &&& s.fx = p then none else if (p &&& s.fx) - ((p &&& s.fx) &&& x) ≠ 0 then some ((p &&& s.fx) - ((p &&& s.fx) &&& x)) else if 1 < (bitsIn p s.bs).length then (bitsIn p s.bs).head? else none := by
      unfold againN gainedN
      rw [eU]
    refine ⟨_, rfl, _, rfl, t, _, _, _, rfl, rfl, SqT.of ht, atI_nat (j := 0) rfl, p, s.fx, rfl, _, rfl, ite2 (fun hb => ?_) (fun hb => ?_)⟩
    · have z := q H1 s1
      rw [ea, if_pos (of_decide_eq_true hb)] at z
      exact z
    have n1 : ¬ p &&& s.fx = p := fun z => hb (decide_eq_true z)
    rw [if_neg n1] at ea
    refine ⟨_, rfl, _, rfl, t, _, _, _, rfl, rfl, SqT.of ht, atI_nat (j := 0) rfl, p, s.fx, rfl, rfl, _, rfl, (x : Int), rfl, p &&& s.fx, x, rfl, rfl, ?_⟩
    refine ⟨_, rfl, (p &&& s.fx) - ((p &&& s.fx) &&& x), 0, rfl, rfl, _, rfl, ite2 (fun hc => ?_) (fun hc => ?_)⟩
    · have n2 : (p &&& s.fx) - ((p &&& s.fx) &&& x) ≠ 0 := fun z => by rw [decide_eq_true z] at hc; cases hc
      have z := q H1 s1
      rw [ea, if_pos n2] at z
      exact ⟨_, rfl, z⟩
    have n2 : ¬ (p &&& s.fx) - ((p &&& s.fx) &&& x) ≠ 0 := fun z => hc (by rw [decide_eq_false z]; rfl)
    rw [if_neg n2] at ea
    have bl := G.len m7
    refine ⟨_, rfl, t, _, _, _, rfl, rfl, SqT.of ht, atI_nat (j := 1) rfl, pb, rfl, ⟨_, SqL.of hp⟩, lc_list (K := K) (xs := s.bs.map vN) (fun k acc H3 => H3 = H1 ∧ acc = (bitsIn p (s.bs.take k)).map vN) (by rw [List.length_map]; omega) ⟨rfl, rfl⟩ (fun k acc H3 hk h => ?_) (fun k u acc H3 hu h => ?_) (fun acc H3 h => ?_)⟩
    · obtain ⟨rfl, rfl⟩ := h
      exact ⟨SqL.of hp, by rw [List.length_map]; exact bitsIn_len p _ k⟩
    · obtain ⟨rfl, rfl⟩ := h
      rw [List.getElem?_map] at hu
      cases eb : s.bs[k]? with
      | none => rw [eb] at hu; cases hu
      | some b =>
        rw [eb] at hu
        obtain rfl := (Option.some.inj hu).symm
        refine ⟨rfl, _, rfl, _, rfl, b, p, rfl, rfl, b &&& p, 0, rfl, rfl, _, rfl, ite2 (fun hd => ?_) (fun hd => ?_)⟩
        · have z : ¬ b &&& p = 0 := fun z => by rw [decide_eq_true z] at hd; cases hd
          refine ⟨_, rfl, _, rfl, b, p, rfl, rfl, rfl, ?_⟩
          rw [bitsIn_succ eb, if_neg z, List.map_append]; rfl
        · have z : b &&& p = 0 := Classical.byContradiction fun z => hd (by rw [decide_eq_false z]; rfl)
          refine ⟨rfl, ?_⟩
          rw [bitsIn_succ eb, if_pos z, List.append_nil]
    · obtain ⟨rfl, rfl⟩ := h
      rw [List.length_map, List.take_length]
      intro lp hlp
      have sL := s1.trans (Same.new (o := .lst ((bitsIn p s.bs).map vN)) hlp)
      have hlp' : (upd H3 lp (.lst ((bitsIn p s.bs).map vN))) lp = some (.lst ((bitsIn p s.bs).map vN)) := upd_same
      have z := q _ sL
      generalize upd H3 lp (.lst ((bitsIn p s.bs).map vN)) = H4 at hlp' z
      rw [ea] at z
      refine ⟨_, rfl, lp, _, rfl, .inl (SqL.of hlp'), ((bitsIn p s.bs).map vN).length, 1, rfl, rfl, _, rfl, ite2 (fun he => ?_) (fun he => ?_)⟩
      · have he' := of_decide_eq_true he
        rw [List.length_map] at he'
        rw [if_pos he'] at z
        revert hlp' z he'
        match bitsIn p s.bs with
        | [] => intro _ _ h; exact absurd h (by decide)
        | g :: l =>
          intro hlp' z _
          exact ⟨_, rfl, lp, _, _, _, rfl, rfl, SqL.of hlp', atI_nat (j := 0) rfl, z⟩
      · have he' : ¬ 1 < (bitsIn p s.bs).length := fun w => he (decide_eq_true (by rw [List.length_map]; exact w))
        rw [if_neg he'] at z
        exact z
abbrev sTwice : Stmt := top 23
theorem scTwice : FnScope ["many", "rules", "part", "level", "some", "again"] ["many", "rules", "part"] (defScope sTwice) := ⟨rfl, rfl, rfl, by decide +kernel, rfl, by decide +kernel, by decide +kernel⟩
theorem ok_twice {f fTA fMO : Addr} {fd fdTA fdMO : FuncData} (F : Fun K "twice" "twice" sTwice f fd) (GTA : FnOk P w K mg base CX0 4 fTA fdTA ["many", "rules", "part", "some"] (spAgain K)) (mTA : mg "told_again" = some (.ref fTA)) (kTA : PySem.W.keepIn K (.ref fTA) = true) (bTA : Binds K fdTA ["many", "rules", "part", "some"] []) (GMO : FnOk P w K mg base CX0 3 fMO fdMO ["sets", "some"] spOneUp) (mMO : mg "with_one_more" = some (.ref fMO)) (kMO : PySem.W.keepIn K (.ref fMO) = true) (bMO : Binds K fdMO ["sets", "some"] []) : FnOk P w K mg base CX0 5 f fd ["many", "rules", "part"] (spTwice K) := by
  refine F.ok scTwice (fun vs H Q E h => ?_) (fun cdv A outer s H vs Q E hr h => ?_)
  · obtain ⟨m, p, rl, rs, rfl, _⟩ := h
    rfl
  · obtain ⟨m, p, rl, rs, rfl, m7, hp, hrl, hRs, lr, q⟩ := h
    have nd := scTwice.nd
    have hr4 : Room 4 _ := hr.mono (by decide)
    have hr3 : Room 3 _ := hr.mono (by decide)
    have p7 : p < 128 := Nat.lt_of_lt_of_le hp (pow7 m7)
    refine ⟨_, (pss_cons (ps_set (i := 3) nd rfl (Or.inl rfl) (pe_lst (pa_cons pe_int pa_nil)))
      (pss_cons (ps_while PassesOwn.never (pt_cmpR (op_neLK (K := K) rfl hr.units) (pv 3) (pe_lst pa_nil) (nomark _)) (pss_cons (ps_for PassesOwn.never rfl (pi_listK (K := K) rfl (pv 3)) (pg_name (i := 4) nd rfl (Or.inl rfl)) (pss_cons (ps_set (i := 5) nd rfl (Or.inl rfl) (pe_call GTA hr4 rfl mTA kTA bTA .nil pass0 (pa_cons (pv 0) (pa_cons (pv 1) (pa_cons (pv 2) (pa_cons (pv 4) pa_nil))))))
      (pss_one (ps_if (pt_cmpR op_notN (pv 5) pe_non (nomark _)) (pss_one (ps_ret (pe_tup (pa_cons (pv 4) (pa_cons (pv 5) pa_nil))))) pss_nil))))
      (pss_one (ps_set (i := 3) nd rfl (Or.inl rfl) (pe_call GMO hr3 rfl mMO kMO bMO .nil pass0 (pa_cons (pv 3) (pa_cons (pv 2) pa_nil)))))))
      (pss_one (ps_ret pe_non)))), ?_⟩
    refine ⟨(by show 1 ≤ sizeLine; decide), fun l0 hl0 => ?_⟩
    have s1 := Same.new (o := .lst [V.int 0]) hl0
    have hl1 : (upd H l0 (.lst [V.int 0])) l0 = some (.lst ((rowN p 0).map vN)) := by rw [upd_same, row_zero p p7]; rfl
    refine ⟨fun n σ H' => ∃ (i : Nat) (lp : Addr) (v4 v5 : Option V), σ = [some (vN m), some (.ref rl), some (vN p), some (.ref lp), v4, v5] ∧ n = 8 - i ∧ i ≤ 8 ∧ Same H H' ∧ (dueM p i).findSome? (hitT m (rs.map Rl.d) p) = none ∧ H' lp = some (.lst ((rowN p i).map vN)), ⟨_, 0, l0, none, none, rfl, rfl, by omega, s1, rfl, hl1⟩, ?_⟩
    rintro n _ H1 ⟨i, lp, v4, v5, rfl, en, hi, s2, u0, hl2⟩
    have mi := map_int (rowN p i)
    refine ⟨_, rfl, Nat.zero_le _, fun np hnp => ?_⟩
    have sN := Same.new (o := .lst []) hnp
    refine ⟨lp, np, (rowN p i).map fun (k : Nat) => (k : Int), [], rfl, rfl, SqL.of (by rw [mi]; exact sN _ _ hl2), SqL.of upd_same, _, rfl, ?_⟩
    have hl3 := sN _ _ hl2
    have s3 := s2.trans sN
    generalize upd H1 np (.lst []) = H3 at hl3 s3
    rw [if_pos rfl]
    refine ite2 (fun hb => ?_) (fun hb => ?_)
    · have hne : rowN p i ≠ [] := fun z => by
        rw [z] at hb
        cases hb
      have hi8 : i < 8 := by
        rcases Nat.lt_or_ge i 8 with h | h
        · exact h
        · have : i = 8 := by omega
          rw [this, row_last p p7] at hne
          exact absurd rfl hne
      refine ⟨_, fun _ _ h => h, ?_⟩
      refine ⟨_, rfl, lp, rfl, ⟨_, SqL.of hl3⟩, for_list (K := K) (xs := (rowN p i).map vN) (fun j σ H' => (∃ v4 v5 : Option V, σ = [some (vN m), some (.ref rl), some (vN p), some (.ref lp), v4, v5]) ∧ Same H3 H' ∧ ((rowN p i).take j).findSome? (hitT m (rs.map Rl.d) p) = none) ⟨⟨_, _, rfl⟩, Same.refl _, rfl⟩ (fun j σ H' _ h => SqL.of (h.2.1 _ _ hl3)) ?_ ?_⟩
      · rintro j v σ H4 hv ⟨⟨v4, v5, rfl⟩, s4, u1⟩
        rw [List.getElem?_map] at hv
        cases ex : (rowN p i)[j]? with
        | none => rw [ex] at hv; cases hv
        | some x =>
          rw [ex] at hv
          obtain rfl := (Option.some.inj hv).symm
          have hx : x < 2 ^ m := by
            have h1 := row_sub (List.mem_of_getElem? ex)
            have h2 : x &&& p ≤ p := Nat.and_le_right
            rw [h1] at h2
            omega
          have s34 := s3.trans s4
          refine ⟨_, rfl, _, rfl, _, rfl, _, rfl, m, p, x, rl, rs, rfl, m7, hx, s34.seq hrl, hRs.same s34, lr, fun H5 s5 => ?_⟩
          cases eg : againN m (rs.map Rl.d) p x with
          | none =>
            refine ⟨_, rfl, rfl, _, rfl, iteF ?_⟩
            exact ⟨⟨_, _, rfl⟩, s4.trans s5, tw_miss u1 ex (by unfold hitT; rw [eg]; rfl)⟩
          | some g =>
            refine ⟨_, rfl, rfl, _, rfl, iteT ?_⟩
            refine ⟨_, rfl, _, rfl, (by show 2 ≤ sizeLine; decide), fun t ht => ?_⟩
            exact q _ _ ((s34.trans s5).trans (Same.new ht)) (by rw [tw_hit u0 u1 hi8 ex (u := (x, g)) (by unfold hitT; rw [eg]; rfl)]; exact ⟨t, rfl, upd_same⟩)
      · rintro σ H4 ⟨⟨v4, v5, rfl⟩, s4, u1⟩
        rw [List.length_map] at u1
        refine ⟨_, rfl, _, rfl, lp, p, i, rfl, p7, hi8, s4 _ _ hl3, fun l H5 s5 hl50 hl5 => ?_⟩
        exact ⟨8 - (i + 1), by omega, i + 1, l, _, _, rfl, rfl, by omega, (s3.trans s4).trans s5, tw_level u0 u1 (Nat.le_refl _), hl5⟩
    · have hz : rowN p i = [] := by
        cases z : rowN p i with
        | nil => rfl
        | cons x xs => exact absurd (by rw [z]; rfl) hb
      exact q _ _ s3 (by rw [tw_none p7 (by omega) u0 hz]; rfl)
end
end Own

namespace Own
open PySem L2
section
variable {P : Program} {w : World} {K : PySem.W.Frag} {mg : Str → Option Value} {base : Heap}
seal PySem.wpAny
abbrev sTree : Stmt := top 24
theorem scTree : FnScope ["many", "rules", "part", "found", "one", "other"] ["many", "rules", "part"] (defScope sTree) := ⟨rfl, rfl, rfl, by decide +kernel, rfl, by decide +kernel, by decide +kernel⟩
theorem ok_tree {f fTW : Addr} {fd fdTW : FuncData} (F : Fun K "tree_of" "tree_of" sTree f fd) (GTW : FnOk P w K mg base CX0 5 fTW fdTW ["many", "rules", "part"] (spTwice K)) (mTW : mg "twice" = some (.ref fTW)) (kTW : PySem.W.keepIn K (.ref fTW) = true) (bTW : Binds K fdTW ["many", "rules", "part"] []) (mTR : mg "tree_of" = some (.ref f)) (kTR : PySem.W.keepIn K (.ref f) = true) (bTR : Binds K fd ["many", "rules", "part"] []) : ∀ n : Nat, FnOk P w K mg base CX0 (n + 6) f fd ["many", "rules", "part"] (spTree K n)
  | 0 => by
    refine F.ok (k := 5) scTree (fun vs H Q E h => ?_) (fun cdv A outer s H vs Q E hr h => ?_)
    · obtain ⟨m, p, rl, rs, rfl, _⟩ := h
      rfl
    · obtain ⟨m, p, rl, rs, rfl, m7, hp, hn, _⟩ := h
      exact absurd hn (Nat.not_lt_zero _)
  | n + 1 => by
    have GTR := ok_tree F GTW mTW kTW bTW mTR kTR bTR n
    refine F.ok (k := n + 6) scTree (fun vs H Q E h => ?_) (fun cdv A outer s H vs Q E hr h => ?_)
    · obtain ⟨m, p, rl, rs, rfl, _⟩ := h
      rfl
    obtain ⟨m, p, rl, rs, rfl, m7, hp, hn, hrl, hRs, lr, q⟩ := h
    have nd := scTree.nd
    have hr5 : Room 5 _ := hr.mono (by omega)
    refine ⟨_, (pss_cons (ps_set (i := 3) nd rfl (Or.inl rfl) (pe_call GTW hr5 rfl mTW kTW bTW .nil pass0 (pa_cons (pv 0) (pa_cons (pv 1) (pa_cons (pv 2) pa_nil)))))
      (pss_cons (ps_if (pt_cmpR op_isN (pv 3) pe_non (nomark _)) (pss_one (ps_ret (pe_tup (pa_cons pe_str (pa_cons (pv 2) pa_nil))))) pss_nil)
      (pss_cons (ps_set (i := 4) nd rfl (Or.inl rfl) (pe_call GTR hr rfl mTR kTR bTR .nil pass0 (pa_cons (pv 0) (pa_cons (pv 1) (pa_cons (pe_op op_orN (pe_ix (ix_tupK (K := K) rfl) (pv 3) pe_int (fun _ _ => rfl)) (pe_ix (ix_tupK (K := K) rfl) (pv 3) pe_int (fun _ _ => rfl))) pa_nil)))))
      (pss_cons (ps_set (i := 5) nd rfl (Or.inl rfl) (pe_call GTR hr rfl mTR kTR bTR .nil pass0 (pa_cons (pv 0) (pa_cons (pv 1) (pa_cons (pe_op op_andInv (pv 2) (pe_un un_inv (pe_ix (ix_tupK (K := K) rfl) (pv 3) pe_int (fun _ _ => rfl)))) pa_nil)))))
      (pss_one (ps_ret (pe_tup (pa_cons pe_str (pa_cons (pv 2) (pa_cons (pe_ix (ix_tupK (K := K) rfl) (pv 3) pe_int (fun _ _ => rfl)) (pa_cons (pe_ix (ix_tupK (K := K) rfl) (pv 3) pe_int (fun _ _ => rfl)) (pa_cons (pv 4) (pa_cons (pv 5) pa_nil))))))))))))), ?_⟩
    refine ⟨_, rfl, _, rfl, _, rfl, m, p, rl, rs, rfl, m7, hp, hrl, hRs, lr, fun v H1 s1 hv => ?_⟩
    cases e : twF m (rs.map Rl.d) p with
    | none =>
      rw [e] at hv
      obtain rfl := (show v = V.non from hv)
      refine ⟨_, rfl, rfl, _, rfl, iteT ?_⟩
      refine ⟨_, rfl, (by show 2 ≤ sizeLine; decide), fun t ht => ?_⟩
      exact q _ _ (s1.trans (Same.new ht)) (by rw [trP_none e]; exact ⟨t, rfl, upd_same⟩)
    | some u =>
      rw [e] at hv
      obtain ⟨a, rfl, ha⟩ := hv
      have z := tw_ok hp e
      have z1 := z.one
      have z2 := z.oth
      refine ⟨_, rfl, rfl, _, rfl, iteF ?_⟩
      refine ⟨_, rfl, _, rfl, _, rfl, a, _, _, _, rfl, rfl, SqT.of ha, atI_nat (j := 0) rfl, _, rfl, a, _, _, _, rfl, rfl, SqT.of ha, atI_nat (j := 1) rfl, u.1, u.2, rfl, rfl, m, u.1 ||| u.2, rl, rs, rfl, m7, by omega, by omega, s1.seq hrl, hRs.same s1, lr, fun v1 H2 s2 t1 => ?_⟩
      have ha2 := s2 _ _ ha
      have s12 := s1.trans s2
      refine ⟨_, rfl, _, rfl, _, rfl, _, rfl, a, _, _, _, rfl, rfl, SqT.of ha2, atI_nat (j := 1) rfl, (u.2 : Int), rfl, p, u.2, rfl, rfl, m, p - (p &&& u.2), rl, rs, rfl, m7, by omega, by omega, s12.seq hrl, hRs.same s12, lr, fun v2 H3 s3 t2 => ?_⟩
      have ha3 := s3 _ _ ha2
      refine ⟨_, rfl, _, rfl, a, _, _, _, rfl, rfl, SqT.of ha3, atI_nat (j := 0) rfl, _, rfl, a, _, _, _, rfl, rfl, SqT.of ha3, atI_nat (j := 1) rfl, _, rfl, _, rfl, (by show 6 ≤ sizeLine; decide), fun t ht => ?_⟩
      have sn := Same.new (o := .tup [.str "cut", vN p, vN u.1, vN u.2, v1, v2]) ht
      exact q _ _ ((s12.trans s3).trans sn) (by rw [trP_some hp e]; exact ⟨t, v1, v2, rfl, upd_same, (t1.same s3).same sn, t2.same sn⟩)
abbrev sCount : Stmt := top 25
theorem scCount : FnScope ["tree"] ["tree"] (defScope sCount) := ⟨rfl, rfl, rfl, by decide +kernel, rfl, by decide +kernel, by decide +kernel⟩
theorem ok_count {f : Addr} {fd : FuncData} (F : Fun K "count_parts" "count_parts" sCount f fd) (mCO : mg "count_parts" = some (.ref f)) (kCO : PySem.W.keepIn K (.ref f) = true) (bCO : Binds K fd ["tree"] []) : ∀ n : Nat, FnOk P w K mg base CX0 (n + 1) f fd ["tree"] (spCount n)
  | 0 => by
    refine F.ok (k := 0) scCount (fun vs H Q E h => ?_) (fun cdv A outer s H vs Q E hr h => ?_)
    · obtain ⟨v, t, rfl, _⟩ := h
      rfl
    · obtain ⟨v, t, rfl, _, hn, _⟩ := h
      exact absurd hn (Nat.not_lt_zero _)
  | n + 1 => by
    have GCO := ok_count F mCO kCO bCO n
    refine F.ok (k := n + 1) scCount (fun vs H Q E h => ?_) (fun cdv A outer s H vs Q E hr h => ?_)
    · obtain ⟨v, t, rfl, _⟩ := h
      rfl
    obtain ⟨v, t, rfl, ht, hn, q⟩ := h
    have nd := scCount.nd
    refine ⟨_, (pss_cons (ps_if (pt_cmpR op_eq (pe_ix (ix_tupK (K := K) rfl) (pv 0) pe_int (fun _ _ => rfl)) pe_str (nomark _)) (pss_one (ps_ret pe_int)) pss_nil)
      (pss_one (ps_ret (pe_op op_addN (pe_op op_addN pe_int (pe_call GCO hr rfl mCO kCO bCO .nil pass0 (pa_cons (pe_ix (ix_tupK (K := K) rfl) (pv 0) pe_int (fun _ _ => rfl)) pa_nil))) (pe_call GCO hr rfl mCO kCO bCO .nil pass0 (pa_cons (pe_ix (ix_tupK (K := K) rfl) (pv 0) pe_int (fun _ _ => rfl)) pa_nil)))))), ?_⟩
    cases t with
    | whole p =>
      obtain ⟨a, rfl, ha⟩ := ht
      refine ⟨_, rfl, a, _, _, _, rfl, rfl, SqT.of ha, atI_nat (j := 0) rfl, rfl, _, rfl, iteT ?_⟩
      exact q
    | cut p s1 g l r =>
      obtain ⟨a, x, y, rfl, ha, hl, hr'⟩ := ht
      have hd : max l.dep r.dep + 1 < n + 1 := hn
      refine ⟨_, rfl, a, _, _, _, rfl, rfl, SqT.of ha, atI_nat (j := 0) rfl, rfl, _, rfl, ite2 (fun hc => ?_) (fun _ => ?_)⟩
      · exact absurd (of_decide_eq_true hc) (by intro z; injection z with z; revert z; decide)
      exact ⟨_, rfl, a, _, _, _, rfl, rfl, SqT.of ha, atI_nat (j := 4) rfl, x, l, rfl, hl, by omega, 1, l.cnt, rfl, rfl, _, rfl, a, _, _, _, rfl, rfl, SqT.of ha, atI_nat (j := 5) rfl, y, r, rfl, hr', by omega, 1 + l.cnt, r.cnt, rfl, rfl, q⟩
abbrev sCutTree : Stmt := top 26
theorem scCutTree : FnScope ["many", "rules", "tree"] ["many", "rules"] (defScope sCutTree) := ⟨rfl, rfl, rfl, by decide +kernel, rfl, by decide +kernel, by decide +kernel⟩
theorem ok_cuttree {f fTR fAL fCO CTM : Addr} {fd fdTR fdAL fdCO : FuncData} {tkMT : PySem.Tok} (F : Fun K "cut_tree" "cut_tree" sCutTree f fd) (GTR : FnOk P w K mg base CX0 134 fTR fdTR ["many", "rules", "part"] (spTree K 128)) (mTR : mg "tree_of" = some (.ref fTR)) (kTR : PySem.W.keepIn K (.ref fTR) = true) (bTR : Binds K fdTR ["many", "rules", "part"] []) (GAL : FnOk P w K mg base CX0 1 fAL fdAL ["many"] spAllOf) (mAL : mg "all_of" = some (.ref fAL)) (kAL : PySem.W.keepIn K (.ref fAL) = true) (bAL : Binds K fdAL ["many"] []) (GCO : FnOk P w K mg base CX0 129 fCO fdCO ["tree"] (spCount 128)) (mCO : mg "count_parts" = some (.ref fCO)) (kCO : PySem.W.keepIn K (.ref fCO) = true) (bCO : Binds K fdCO ["tree"] []) (OTM : Exc K "TooMany" CTM) (mMT : mg "MOST_TREE_PARTS" = some (.int 60 tkMT)) : FnOk P w K mg base (CX1 P w) 135 f fd ["many", "rules"] (spCutTree K CTM) := by
  refine F.ok1 scCutTree (fun vs H Q E h => ?_) (fun cdv A outer s H vs Q E hr h => ?_)
  · obtain ⟨m, rl, rs, rfl, _⟩ := h
    rfl
  · obtain ⟨m, rl, rs, rfl, m7, hrl, hRs, lr, qe, qq⟩ := h
    have nd := scCutTree.nd
    have hr1 : Room 1 _ := hr.mono (by decide)
    have hrT : Room 134 _ := hr.mono (by decide)
    have hrC : Room 129 _ := hr.mono (by decide)
    have pw : 0 < 2 ^ m := Nat.two_pow_pos m
    have p7 := pow7 m7
    refine ⟨_, (pss_cons (ps_set (i := 2) nd rfl (Or.inl rfl) (pe_call GTR hrT rfl mTR kTR bTR .nil pass0 (pa_cons (pv 0) (pa_cons (pv 1) (pa_cons (pe_call GAL hr1 rfl mAL kAL bAL .nil pass0 (pa_cons (pv 0) pa_nil)) pa_nil)))))
      (pss_cons (ps_if (pt_cmpR op_gtN (pe_call GCO hrC rfl mCO kCO bCO .nil pass0 (pa_cons (pv 2) pa_nil)) (pe_glob (v := vN 60) (by rfl) mMT ⟨_, rfl⟩) (nomark _)) (pss_one (ps_raise (EX := E) OTM (by rfl) rfl (pa_cons (pe_fs3 (pe_glob (v := vN 60) (by rfl) mMT ⟨_, rfl⟩)) pa_nil) (fun _ _ _ _ _ _ _ I hx hE => raise_out I hx hE))) pss_nil)
      (pss_one (ps_ret (pv 2))))), ?_⟩
    refine ⟨_, rfl, _, rfl, _, rfl, m, rfl, by omega, m, 2 ^ m - 1, rl, rs, rfl, m7, by omega, by omega, hrl, hRs, lr, fun v H1 s1 hv => ?_⟩
    have dp := tr_dep (m := m) (rs := rs.map Rl.d) _ (2 ^ m - 1) (Nat.le_refl _) (by omega)
    refine ⟨_, rfl, v, _, rfl, hv, by omega, (trP m (rs.map Rl.d) (2 ^ m - 1)).cnt, 60, rfl, rfl, _, rfl, ite2 (fun hb => ?_) (fun hb => ?_)⟩
    · exact ⟨_, rfl, by decide, fun x => ⟨(by show 1 ≤ sizeLine; decide), qe (of_decide_eq_true hb) _ s1⟩⟩
    · exact ⟨_, rfl, qq (Nat.le_of_not_lt fun z => hb (decide_eq_true z)) _ _ s1 hv⟩
abbrev sLeaves : Stmt := top 27
theorem scLeaves : FnScope ["tree"] ["tree"] (defScope sLeaves) := ⟨rfl, rfl, rfl, by decide +kernel, rfl, by decide +kernel, by decide +kernel⟩
theorem ok_leaves {f : Addr} {fd : FuncData} (F : Fun K "leaves" "leaves" sLeaves f fd) (mLV : mg "leaves" = some (.ref f)) (kLV : PySem.W.keepIn K (.ref f) = true) (bLV : Binds K fd ["tree"] []) : ∀ n : Nat, FnOk P w K mg base CX0 (n + 1) f fd ["tree"] (spLeaves n)
  | 0 => by
    refine F.ok (k := 0) scLeaves (fun vs H Q E h => ?_) (fun cdv A outer s H vs Q E hr h => ?_)
    · obtain ⟨v, t, rfl, _⟩ := h
      rfl
    · obtain ⟨v, t, rfl, _, hn, _⟩ := h
      exact absurd hn (Nat.not_lt_zero _)
  | n + 1 => by
    have GLV := ok_leaves F mLV kLV bLV n
    refine F.ok (k := n + 1) scLeaves (fun vs H Q E h => ?_) (fun cdv A outer s H vs Q E hr h => ?_)
    · obtain ⟨v, t, rfl, _⟩ := h
      rfl
    obtain ⟨v, t, rfl, ht, hn, hc60, q⟩ := h
    have nd := scLeaves.nd
    refine ⟨_, (pss_cons (ps_if (pt_cmpR op_eq (pe_ix (ix_tupK (K := K) rfl) (pv 0) pe_int (fun _ _ => rfl)) pe_str (nomark _)) (pss_one (ps_ret (pe_lst (pa_cons (pe_ix (ix_tupK (K := K) rfl) (pv 0) pe_int (fun _ _ => rfl)) pa_nil)))) pss_nil)
      (pss_one (ps_ret (pe_op op_cat (pe_call GLV hr rfl mLV kLV bLV .nil pass0 (pa_cons (pe_ix (ix_tupK (K := K) rfl) (pv 0) pe_int (fun _ _ => rfl)) pa_nil)) (pe_call GLV hr rfl mLV kLV bLV .nil pass0 (pa_cons (pe_ix (ix_tupK (K := K) rfl) (pv 0) pe_int (fun _ _ => rfl)) pa_nil)))))), ?_⟩
    cases t with
    | whole p =>
      obtain ⟨a, rfl, ha⟩ := ht
      refine ⟨_, rfl, a, _, _, _, rfl, rfl, SqT.of ha, atI_nat (j := 0) rfl, rfl, _, rfl, iteT ?_⟩
      exact ⟨_, rfl, a, _, _, _, rfl, rfl, SqT.of ha, atI_nat (j := 1) rfl, (by show 1 ≤ sizeLine; decide), fun l hl => q l _ (Same.new hl) hl upd_same⟩
    | cut p s1 g l r =>
      obtain ⟨a, x, y, rfl, ha, hl, hr'⟩ := ht
      have hd : max l.dep r.dep + 1 < n + 1 := hn
      have h60 : 1 + l.cnt + r.cnt ≤ 60 := hc60
      have ll := l.lvs_le
      have lr := r.lvs_le
      refine ⟨_, rfl, a, _, _, _, rfl, rfl, SqT.of ha, atI_nat (j := 0) rfl, rfl, _, rfl, ite2 (fun hc => ?_) (fun _ => ?_)⟩
      · exact absurd (of_decide_eq_true hc) (by intro z; injection z with z; revert z; decide)
      refine ⟨_, rfl, a, _, _, _, rfl, rfl, SqT.of ha, atI_nat (j := 4) rfl, x, l, rfl, hl, by omega, by omega, fun l1 H1 s1 hl10 hl1 => ?_⟩
      have ha1 := s1 _ _ ha
      refine ⟨_, rfl, a, _, _, _, rfl, rfl, SqT.of ha1, atI_nat (j := 5) rfl, y, r, rfl, hr'.same s1, by omega, by omega, fun l2 H2 s2 hl20 hl2 => ?_⟩
      refine ⟨l1, l2, l.lvs.map vN, r.lvs.map vN, rfl, rfl, s2 _ _ hl1, hl2, Nat.le_of_lt (small1000 (by rw [List.length_map, List.length_map]; omega)), fun l3 hl3 => ?_⟩
      have s12 := s1.trans s2
      exact q l3 _ (s12.trans (Same.new hl3)) (s12.none hl3) (by rw [upd_same]; show _ = some (HO.lst ((l.lvs ++ r.lvs).map vN)); rw [List.map_append])
end
end Own

namespace Own
open PySem L2
section
variable {P : Program} {w : World} {K : PySem.W.Frag} {mg : Str → Option Value} {base : Heap}
seal PySem.wpAny
abbrev sTake : Stmt := top 29
theorem scTake : FnScope ["_law_state", "_law_most", "_law_at", "_law_script", "_law_mingled"] ["_law_state", "_law_most"] (defScope sTake) := ⟨rfl, rfl, rfl, by decide +kernel, rfl, by decide +kernel, by decide +kernel⟩
theorem ok_take {f : Addr} {fd : FuncData} (F : Fun K "_law_take" "_law_take" sTake f fd) (zlen : mg "len" = none) : FnOk P w K mg base CX0 1 f fd ["_law_state", "_law_most"] (spTakeF K) := by
  refine F.ok scTake (fun vs H Q E h => ?_) (fun cdv A outer s H vs Q E hr h => ?_)
  · obtain ⟨st, ns, k, most, rfl, _⟩ := h
    rfl
  · obtain ⟨st, ns, k, most, rfl, ⟨sc, hst, hscF⟩, hk, hl, hm, q⟩ := h
    have nd := scTake.nd
    refine ⟨_, (pss_cons (ps_set (i := 2) nd rfl (Or.inl rfl) (pe_ix (ix_listK (K := K) rfl) (pv 0) pe_int (fun _ _ => rfl)))
      (pss_cons (ps_asg (pe_op op_add (pv 2) pe_int) (pg_sub (pv 0) pe_int set_list))
      (pss_cons (ps_set (i := 3) nd rfl (Or.inl rfl) (pe_ix (ix_listK (K := K) rfl) (pv 0) pe_int (fun _ _ => rfl)))
      (pss_cons (ps_if (pt_cmpR op_lt (pv 2) (pe_callB (call_lenK (K := K) rfl) (by rfl) zlen PySem.boot_len (pa_cons (pv 3) pa_nil)) (nomark _)) (pss_one (ps_ret (pe_op op_mod (pe_ix (ix_listK (K := K) rfl) (pv 3) (pv 2) (fun _ _ => rfl)) (pv 1)))) pss_nil)
      (pss_cons (ps_set (i := 4) nd rfl (Or.inl rfl) (pe_op op_add (pe_op op_add (pe_op op_mul (pv 2) (pv 2)) (pe_op op_mul pe_int (pv 2))) pe_int))
      (pss_cons (ps_if (pt_cmpR op_gt (pe_callB (call_lenK (K := K) rfl) (by rfl) zlen PySem.boot_len (pa_cons (pv 3) pa_nil)) pe_int (nomark _)) (pss_one (ps_set (i := 4) nd rfl (Or.inl rfl) (pe_op op_add (pv 4) (pe_op op_mul (pe_op op_mod (pe_ix (ix_listK (K := K) rfl) (pv 3) (pe_op op_mod (pe_op op_add (pe_op op_mul pe_int (pv 2)) pe_int) (pe_callB (call_lenK (K := K) rfl) (by rfl) zlen PySem.boot_len (pa_cons (pv 3) pa_nil))) (fun _ _ => rfl)) pe_int) pe_int)))) pss_nil)
      (pss_one (ps_ret (pe_op op_mod (pe_op op_mod (pe_op op_mul (pv 4) (pv 4)) pe_int) (pv 1)))))))))), ?_⟩
    refine ⟨_, rfl, st, _, _, _, rfl, rfl, SqL.of hst, atI_nat (j := 1) rfl, ?_⟩
    refine ⟨_, rfl, _, _, rfl, rfl, _, rfl, st, _, 1, 1, rfl, rfl, hst, rfl, ?_⟩
    have bt : But st H (upd H st (.lst [.ref sc, .int ((k : Int) + 1)])) := But.put st H _
    have hscF' : SqF K (upd H st (.lst [.ref sc, .int ((k : Int) + 1)])) sc ns := STF.seq hst hscF bt
    have hsc' := hscF'.sq
    have s' : L2.STF K (upd H st (.lst [.ref sc, .int ((k : Int) + 1)])) st ns (k + 1) := ⟨sc, by rw [upd_same]; rfl, hscF'⟩
    refine ⟨_, rfl, st, _, _, _, rfl, rfl, SqL.of upd_same, atI_nat (j := 0) rfl, ?_⟩
    have len1 : (ns.map V.int).length = ns.length := List.length_map ..
    refine ⟨_, rfl, _, rfl, sc, _, rfl, .inl hsc', _, _, rfl, rfl, _, rfl, ?_⟩
    refine ite2 (fun hc => ?_) (fun hc => ?_)
    · have hlt : k < ns.length := by
        have := of_decide_eq_true hc
        rw [len1] at this
        omega
      refine ⟨_, rfl, _, rfl, sc, _, _, _, rfl, rfl, hsc', atI_nat (j := k) (v := V.int ns[k]) (by simp [hlt]), _, rfl, _, _, rfl, rfl, hm, ?_⟩
      exact q _ _ (mod_lo _ hm) (mod_hi _ hm) s' bt
    · have kk0 : (0 : Int) ≤ (k : Int) * k := Int.mul_nonneg (by omega) (by omega)
      have kk1 : (k : Int) * k ≤ 1000000 * 1000000 := Int.mul_le_mul (by omega) (by omega) (by omega) (by omega)
      refine ⟨_, rfl, _, rfl, _, _, rfl, rfl, .inl ⟨by omega, by omega⟩, _, rfl, _, _, rfl, rfl, .inl ⟨by decide, by decide⟩, _, _, rfl, rfl, _, _, rfl, rfl, ?_⟩
      have fin : ∀ z : Int, 0 ≤ z → z < 1000000000000000000 → (tRet (tOp (rI (fun _ j => 0 < j) fun i j => V.int (i % j)) (tOp (rI (fun _ j => 0 < j) fun i j => V.int (i % j)) (tOp (rI CMul fun i j => V.int (i * j)) (tVar 4) (tVar 4)) (tC (.int 2147483647))) (tVar 1)))
          { nx := fun _ H' => Q .non H', rt := Q } [some (.ref st), some (.int most), some (.int k), some (.ref sc), some (.int z)] (upd H st (.lst [.ref sc, .int ((k : Int) + 1)])) := fun z z0 z1 =>
        ⟨_, rfl, _, rfl, _, _, rfl, rfl, .inl ⟨by omega, by omega⟩, _, _, rfl, rfl, (by show (0 : Int) < _; decide), _, rfl, _, _, rfl, rfl, hm, q _ _ (mod_lo _ hm) (mod_hi _ hm) s' bt⟩
      refine ⟨_, rfl, sc, _, rfl, .inl hsc', _, _, rfl, rfl, _, rfl, ?_⟩
      refine ite2 (fun hc2 => ?_) (fun hc2 => ?_)
      · have hpos : 0 < ns.length := by
          have := of_decide_eq_true hc2
          rw [len1] at this
          omega
        have hp' : (0 : Int) < ((ns.map V.int).length : Int) := by rw [len1]; omega
        obtain ⟨j, ej, hj⟩ : ∃ j : Nat, ((5 * (k : Int) + 2) % ((ns.map V.int).length : Int)) = (j : Int) ∧ j < ns.length := by
          have h1 := mod_lo (5 * (k : Int) + 2) hp'
          have h2 := mod_hi (5 * (k : Int) + 2) hp'
          rw [len1] at h1 h2 ⊢
          exact ⟨((5 * (k : Int) + 2) % (ns.length : Int)).toNat, by omega, by omega⟩
        have m0 := mod_lo ns[j] (show (0 : Int) < 2147483629 by decide)
        have m1 := mod_hi ns[j] (show (0 : Int) < 2147483629 by decide)
        refine ⟨_, rfl, _, rfl, _, rfl, _, _, rfl, rfl, .inl ⟨by decide, by decide⟩, _, _, rfl, rfl, _, rfl, sc, _, rfl, .inl hsc', _, _, rfl, rfl, hp', sc, _, _, _, rfl, rfl, hsc', (by rw [ej]; exact atI_nat (j := j) (v := V.int ns[j]) (by simp [hj])), _, _, rfl, rfl, (by show (0 : Int) < _; decide), _, _, rfl, rfl, .inr ⟨by decide, by decide⟩, _, _, rfl, rfl, ?_⟩
        exact fin _ (by omega) (by omega)
      · exact fin _ (by omega) (by omega)
abbrev sSet : Stmt := top 30
theorem scSet : FnScope ["_law_state", "_law_many", "_law_way", "_law_some"] ["_law_state", "_law_many"] (defScope sSet) := ⟨rfl, rfl, rfl, by decide +kernel, rfl, by decide +kernel, by decide +kernel⟩
theorem ok_set {f fT : Addr} {fd fdT : FuncData} (F : Fun K "_law_set" "_law_set" sSet f fd) (GT : FnOk P w K mg base CX0 1 fT fdT ["_law_state", "_law_most"] (spTakeF K)) (mT : mg "_law_take" = some (.ref fT)) (kT : PySem.W.keepIn K (.ref fT) = true) (bT : Binds K fdT ["_law_state", "_law_most"] []) : FnOk P w K mg base CX0 2 f fd ["_law_state", "_law_many"] (spSetF K) := by
  refine F.ok scSet (fun vs H Q E h => ?_) (fun cdv A outer s H vs Q E hr h => ?_)
  · obtain ⟨st, ns, k, m, rfl, _⟩ := h
    rfl
  · obtain ⟨st, ns, k, m, rfl, S, hk, hl, hm1, hm7, q⟩ := h
    have nd := scSet.nd
    refine ⟨_, (pss_cons (ps_set (i := 2) nd rfl (Or.inl rfl) (pe_call GT hr rfl mT kT bT .nil pass0 (pa_cons (pv 0) (pa_cons pe_int pa_nil))))
      (pss_cons (ps_set (i := 3) nd rfl (Or.inl rfl) (pe_call GT hr rfl mT kT bT .nil pass0 (pa_cons (pv 0) (pa_cons (pe_op op_shl pe_int (pv 1)) pa_nil))))
      (pss_cons (ps_if (pt_cmpR op_eq (pv 2) pe_int (nomark _)) (pss_one (ps_ret (pe_op op_and (pv 3) (pe_call GT hr rfl mT kT bT .nil pass0 (pa_cons (pv 0) (pa_cons (pe_op op_shl pe_int (pv 1)) pa_nil)))))) pss_nil)
      (pss_cons (ps_if (pt_cmpR op_eq (pv 2) pe_int (nomark _)) (pss_one (ps_ret (pe_op op_or (pv 3) (pe_call GT hr rfl mT kT bT .nil pass0 (pa_cons (pv 0) (pa_cons (pe_op op_shl pe_int (pv 1)) pa_nil)))))) pss_nil)
      (pss_cons (ps_if (pt_cmpR op_eq (pv 2) pe_int (nomark _)) (pss_one (ps_ret (pe_op op_shl pe_int (pe_call GT hr rfl mT kT bT .nil pass0 (pa_cons (pv 0) (pa_cons (pv 1) pa_nil)))))) pss_nil)
      (pss_one (ps_ret (pv 3)))))))), ?_⟩
    have cp : CPow 1 (m : Int) := cpow1 (by omega)
    have e1 := shl1 m
    have pw : 0 < 2 ^ m := Nat.two_pow_pos m
    refine ⟨_, rfl, st, ns, k, 4, rfl, S, by omega, hl, by decide, fun r1 H1 a1 b1 S1 B1 => ?_⟩
    refine ⟨_, rfl, _, rfl, _, _, rfl, rfl, cp, st, ns, k + 1, _, rfl, S1, by omega, hl, by rw [e1]; omega, fun r2 H2 a2 b2 S2 B2 => ?_⟩
    rw [e1] at b2
    obtain ⟨n2, rfl, hn2⟩ := nat_of a2 b2
    have B12 := B1.trans B2
    refine ⟨_, rfl, rfl, _, rfl, ?_⟩
    refine ite2 (fun _ => ?_) (fun _ => ?_)
    · refine ⟨_, rfl, _, rfl, _, rfl, _, _, rfl, rfl, cp, st, ns, k + 2, _, rfl, S2, by omega, hl, by rw [e1]; omega, fun r3 H3 a3 b3 S3 B3 => ?_⟩
      rw [e1] at b3
      obtain ⟨n3, rfl, hn3⟩ := nat_of a3 b3
      refine ⟨_, _, rfl, rfl, ?_⟩
      show Q (V.int (Builtin.bitAnd (n2 : Int) (n3 : Int))) _
      rw [bitAnd_nat]
      exact q _ _ _ (and_lt hn2) (Nat.le_refl _) S3 (B12.trans B3)
    refine ⟨_, rfl, rfl, _, rfl, ?_⟩
    refine ite2 (fun _ => ?_) (fun _ => ?_)
    · refine ⟨_, rfl, _, rfl, _, rfl, _, _, rfl, rfl, cp, st, ns, k + 2, _, rfl, S2, by omega, hl, by rw [e1]; omega, fun r3 H3 a3 b3 S3 B3 => ?_⟩
      rw [e1] at b3
      obtain ⟨n3, rfl, hn3⟩ := nat_of a3 b3
      refine ⟨_, _, rfl, rfl, ?_⟩
      show Q (V.int (Builtin.bitOr (n2 : Int) (n3 : Int))) _
      rw [bitOr_nat]
      exact q _ _ _ (Nat.or_lt_two_pow hn2 hn3) (Nat.le_refl _) S3 (B12.trans B3)
    refine ⟨_, rfl, rfl, _, rfl, ?_⟩
    refine ite2 (fun _ => ?_) (fun _ => ?_)
    · refine ⟨_, rfl, _, rfl, st, ns, k + 2, (m : Int), rfl, S2, by omega, hl, by omega, fun r3 H3 a3 b3 S3 B3 => ?_⟩
      obtain ⟨n3, rfl, hn3⟩ := nat_of a3 b3
      refine ⟨_, _, rfl, rfl, cpow1 (by omega), ?_⟩
      show Q (V.int (1 * 2 ^ (n3 : Int).toNat)) _
      rw [shl1]
      exact q _ _ _ (Nat.pow_lt_pow_right (by decide) hn3) (Nat.le_refl _) S3 (B12.trans B3)
    · exact ⟨_, rfl, q _ _ _ hn2 (by omega) S2 B12⟩
abbrev sRules : Stmt := top 32
theorem scRules : FnScope ["_law_state", "_law_many", "_law_count", "_law_rules_here", "_law_k", "_law_word"] ["_law_state", "_law_many", "_law_count"] (defScope sRules) := ⟨rfl, rfl, rfl, by decide +kernel, rfl, by decide +kernel, by decide +kernel⟩
theorem ok_rules {f fT fS : Addr} {fd fdT fdS : FuncData} (F : Fun K "_law_rules" "_law_rules" sRules f fd) (GT : FnOk P w K mg base CX0 1 fT fdT ["_law_state", "_law_most"] (spTakeF K)) (mT : mg "_law_take" = some (.ref fT)) (kT : PySem.W.keepIn K (.ref fT) = true) (bT : Binds K fdT ["_law_state", "_law_most"] []) (GS : FnOk P w K mg base CX0 2 fS fdS ["_law_state", "_law_many"] (spSetF K)) (mS : mg "_law_set" = some (.ref fS)) (kS : PySem.W.keepIn K (.ref fS) = true) (bS : Binds K fdS ["_law_state", "_law_many"] []) (zrange : mg "range" = none) : FnOk P w K mg base CX0 3 f fd ["_law_state", "_law_many", "_law_count"] (spRules K) := by
  refine F.ok scRules (fun vs H Q E h => ?_) (fun cdv A outer s H vs Q E hr h => ?_)
  · obtain ⟨st, ns, k, m, n, rfl, _⟩ := h
    rfl
  · obtain ⟨st, ns, k, m, n, rfl, S, hk, hl, hm1, hm7, hn, q⟩ := h
    have nd := scRules.nd
    have hr1 : Room 1 _ := hr.mono (by decide)
    refine ⟨_, (pss_cons (ps_set (i := 3) nd rfl (Or.inl rfl) (pe_lst pa_nil))
      (pss_cons (ps_for PassesOwn.never rfl (pi_range1 rfl zrange (pa_cons (pv 2) pa_nil)) (pg_name (i := 4) nd rfl (Or.inl rfl)) (pss_cons (ps_set (i := 5) nd rfl (Or.inl rfl) (pe_ix (ix_listK (K := K) rfl) (pe_lst (pa_cons pe_str (pa_cons pe_str pa_nil))) (pe_call GT hr1 rfl mT kT bT .nil pass0 (pa_cons (pv 0) (pa_cons pe_int pa_nil))) (fun _ _ => rfl)))
      (pss_one (ps_expr (pe_bm PySem.F.plainAttrs_list PySem.F.slot_list_append PySem.F.type_list_append mt_append (pv 3) (pa_cons (pe_tup (pa_cons (pv 5) (pa_cons (pe_call GS hr rfl mS kS bS .nil pass0 (pa_cons (pv 0) (pa_cons (pv 1) pa_nil))) (pa_cons (pe_call GS hr rfl mS kS bS .nil pass0 (pa_cons (pv 0) (pa_cons (pv 1) pa_nil))) pa_nil)))) pa_nil))))))
      (pss_one (ps_ret (pv 3))))), ?_⟩
    refine ⟨(by show 0 ≤ sizeLine; exact Nat.zero_le _), fun g hg => ?_⟩
    obtain ⟨hgH, hgs⟩ := stf_fresh S (But.refl _ _) hg
    refine ⟨_, rfl, (n : Int), rfl, by omega, by omega, for_rangeN (n := n) (fun i σ H2 => (∃ v4 v5, σ = [some (.ref st), some (vN m), some (vN n), some (.ref g), v4, v5]) ∧
      ∃ (rs : List Rl) (k2 : Nat), rs.length = i ∧ (∀ r ∈ rs, RuleAt H2 r.r r.st r.x r.y ∧ r.x < 2 ^ m ∧ r.y < 2 ^ m) ∧ H2 g = some (.lst (rs.map fun r => V.ref r.r)) ∧ L2.STF K H2 st ns k2 ∧ k2 ≤ k + 7 * i ∧ But st H H2)
      ⟨⟨none, none, rfl⟩, [], k, rfl, (fun r h => absurd h List.not_mem_nil), upd_same, S.new hg, by omega, (But.refl _ _).own hgH⟩ ?_ ?_⟩
    · rintro i σ H2 hi ⟨⟨v4, v5, rfl⟩, rs, k2, hrl, hrs, hg2, S2, hk2, B2⟩
      refine ⟨(by show 2 ≤ sizeLine; decide), fun l hl2 => ?_⟩
      have sl := Same.new (o := .lst [V.str "settle", V.str "deal"]) hl2
      have hls : l ≠ st := (stf_fresh S2 (But.refl _ _) hl2).2
      refine ⟨_, rfl, st, ns, k2, 2, rfl, S2.new hl2, by omega, hl, by decide, fun r1 H3 a3 b3 S3 B3 => ?_⟩
      obtain ⟨n1, rfl, hn1⟩ := nat_of (n := 2) a3 b3
      have hl3 := B3 _ _ (show (upd H2 l (.lst [V.str "settle", V.str "deal"])) l = some (.lst [V.str "settle", V.str "deal"]) from upd_same) hls
      have B03 : But st H H3 := B2.trans ((But.new hl2).trans B3)
      obtain ⟨sb, esb⟩ : ∃ sb : Bool, ([V.str "settle", V.str "deal"] : List V)[n1]? = some (V.str (wordS sb)) := by
        match n1, hn1 with
        | 0, _ => exact ⟨true, rfl⟩
        | 1, _ => exact ⟨false, rfl⟩
      refine ⟨l, _, _, _, rfl, rfl, SqL.of hl3, atI_nat esb, ?_⟩
      have hg3 : H3 g = some (.lst (rs.map fun r => V.ref r.r)) := B3 _ _ (sl _ _ hg2) hgs
      have rk : ∀ r ∈ rs, RuleAt H3 r.r r.st r.x r.y := fun r hr' => stf_tup (S2.new hl2) B3 (sl _ _ (hrs r hr').1)
      refine ⟨_, rfl, .inl ⟨rfl, _, SqL.of hg3⟩, _, rfl, ?_⟩
      refine ⟨_, rfl, _, rfl, st, ns, k2 + 1, m, rfl, S3, by omega, hl, hm1, hm7, fun x k4 H4 hx hk4 S4 B4 => ?_⟩
      refine ⟨_, rfl, _, rfl, st, ns, k4, m, rfl, S4, by omega, hl, hm1, hm7, fun y k5 H5 hy hk5 S5 B5 => ?_⟩
      refine ⟨(by show 3 ≤ sizeLine; decide), fun t ht => ?_⟩
      have B05 := (B03.trans B4).trans B5
      have htH := stf_fresh S5 B05 ht
      have sn := Same.new (o := .tup [V.str (wordS sb), V.int (x : Int), V.int (y : Int)]) ht
      have hg5 := B5 _ _ (B4 _ _ hg3 hgs) hgs
      have hg6 := sn _ _ hg5
      refine ⟨g, _, _, rfl, rfl, hg6, by rw [List.length_map, hrl]; exact small1000 (by omega), ⟨_, _, rfl⟩, rs ++ [⟨t, sb, x, y⟩], k5, by rw [List.length_append, hrl]; rfl, fun r hr' => ?_, by rw [upd_same, List.map_append]; rfl, (S5.new ht).put hg6 hgs, by omega, (B05.trans (But.new ht)).own hgH⟩
      rcases List.mem_append.mp hr' with hr' | hr'
      · exact ⟨tup_put hg6 _ _ (sn _ _ (stf_tup S4 B5 (stf_tup S3 B4 (rk r hr')))), (hrs r hr').2⟩
      · rw [List.mem_singleton.mp hr']
        exact ⟨tup_put hg6 _ _ upd_same, hx, hy⟩
    · rintro σ H2 ⟨⟨v4, v5, rfl⟩, rs, k2, hrl, hrs, hg2, S2, hk2, B2⟩
      exact ⟨_, rfl, q rs g k2 _ hrl hrs hk2 hgH hg2 S2 B2⟩
abbrev sTable : Stmt := top 33
theorem scTable : FnScope ["_law_state", "_law_many", "_law_count"] ["_law_state"] (defScope sTable) := ⟨rfl, rfl, rfl, by decide +kernel, rfl, by decide +kernel, by decide +kernel⟩
theorem ok_table {f fT fRU : Addr} {fd fdT fdRU : FuncData} (F : Fun K "_law_table" "_law_table" sTable f fd) (GT : FnOk P w K mg base CX0 1 fT fdT ["_law_state", "_law_most"] (spTakeF K)) (mT : mg "_law_take" = some (.ref fT)) (kT : PySem.W.keepIn K (.ref fT) = true) (bT : Binds K fdT ["_law_state", "_law_most"] []) (GRU : FnOk P w K mg base CX0 3 fRU fdRU ["_law_state", "_law_many", "_law_count"] (spRules K)) (mRU : mg "_law_rules" = some (.ref fRU)) (kRU : PySem.W.keepIn K (.ref fRU) = true) (bRU : Binds K fdRU ["_law_state", "_law_many", "_law_count"] []) : FnOk P w K mg base CX0 4 f fd ["_law_state"] (spTable62 K) := by
  refine F.ok scTable (fun vs H Q E h => ?_) (fun cdv A outer s H vs Q E hr h => ?_)
  · obtain ⟨st, ns, k, rfl, _⟩ := h
    rfl
  · obtain ⟨st, ns, k, rfl, S, hk, hl, q⟩ := h
    have nd := scTable.nd
    have hr1 : Room 1 _ := hr.mono (by decide)
    have hr3 : Room 3 _ := hr.mono (by decide)
    refine ⟨_, (pss_cons (ps_set (i := 1) nd rfl (Or.inl rfl) (pe_op op_addN pe_int (pe_call GT hr1 rfl mT kT bT .nil pass0 (pa_cons (pv 0) (pa_cons pe_int pa_nil))))) (pss_cut (fun σ H' => ∃ (m k' : Nat), σ = [some (.ref st), some (vN m), none] ∧ 1 ≤ m ∧ m ≤ 7 ∧ k' ≤ k + 3 ∧ L2.STF K H' st ns k' ∧ But st H H') (ps_if (pt_cmpR op_eqN (pe_call GT hr1 rfl mT kT bT .nil pass0 (pa_cons (pv 0) (pa_cons pe_int pa_nil))) pe_int (nomark _)) (pss_one (ps_set (i := 1) nd rfl (Or.inl rfl) (pe_op op_addN pe_int (pe_call GT hr1 rfl mT kT bT .nil pass0 (pa_cons (pv 0) (pa_cons pe_int pa_nil)))))) pss_nil) (pss_cons (ps_set (i := 2) nd rfl (Or.inl rfl) (pe_call GT hr1 rfl mT kT bT .nil pass0 (pa_cons (pv 0) (pa_cons pe_int pa_nil)))) (pss_cut (fun σ H' => ∃ (m c k' : Nat), σ = [some (.ref st), some (vN m), some (vN c)] ∧ 1 ≤ m ∧ m ≤ 7 ∧ c ≤ 12 ∧ k' ≤ k + 6 ∧ L2.STF K H' st ns k' ∧ But st H H') (ps_if (pt_cmpR op_eqN (pe_call GT hr1 rfl mT kT bT .nil pass0 (pa_cons (pv 0) (pa_cons pe_int pa_nil))) pe_int (nomark _)) (pss_one (ps_set (i := 2) nd rfl (Or.inl rfl) (pe_call GT hr1 rfl mT kT bT .nil pass0 (pa_cons (pv 0) (pa_cons pe_int pa_nil))))) pss_nil) (pss_one (ps_ret (pe_tup (pa_cons (pv 1) (pa_cons (pe_call GRU hr3 rfl mRU kRU bRU .nil pass0 (pa_cons (pv 0) (pa_cons (pv 1) (pa_cons (pv 2) pa_nil)))) pa_nil))))))))), ?_⟩
    refine ⟨_, rfl, st, ns, k, 5, rfl, S, by omega, hl, by decide, fun r1 H1 ar1 br1 Sr1 Br1 => ?_⟩
    obtain ⟨n1, rfl, hn1⟩ := nat_of (n := 5) ar1 br1
    refine ⟨1, n1, rfl, rfl, ?_⟩
    dsimp only
    refine ⟨⟨_, rfl, st, ns, (k + 1), 4, rfl, Sr1, by omega, hl, by decide, fun r2 H2 ar2 br2 Sr2 Br2 => ?_⟩, ?_⟩
    · obtain ⟨n2, rfl, hn2⟩ := nat_of (n := 4) ar2 br2
      refine ⟨n2, 0, rfl, rfl, _, rfl, ite2 (fun _ => ?_) (fun _ => ?_)⟩
      · refine ⟨_, rfl, st, ns, (k + 1 + 1), 7, rfl, Sr2, by omega, hl, by decide, fun r3 H3 ar3 br3 Sr3 Br3 => ?_⟩
        obtain ⟨n3, rfl, hn3⟩ := nat_of (n := 7) ar3 br3
        exact ⟨1, n3, rfl, rfl, 1 + n3, k + 1 + 1 + 1, rfl, by omega, by omega, by omega, Sr3, (Br1.trans Br2).trans Br3⟩
      · exact ⟨1 + n1, k + 1 + 1, rfl, by omega, by omega, by omega, Sr2, Br1.trans Br2⟩
    rintro _ H4 ⟨m, k4, rfl, m1, m7, hk4, S4, B4⟩
    refine ⟨_, rfl, st, ns, k4, 7, rfl, S4, by omega, hl, by decide, fun r5 H5 ar5 br5 Sr5 Br5 => ?_⟩
    obtain ⟨n5, rfl, hn5⟩ := nat_of (n := 7) ar5 br5
    refine ⟨⟨_, rfl, st, ns, (k4 + 1), 4, rfl, Sr5, by omega, hl, by decide, fun r6 H6 ar6 br6 Sr6 Br6 => ?_⟩, ?_⟩
    · obtain ⟨n6, rfl, hn6⟩ := nat_of (n := 4) ar6 br6
      refine ⟨n6, 0, rfl, rfl, _, rfl, ite2 (fun _ => ?_) (fun _ => ?_)⟩
      · refine ⟨_, rfl, st, ns, (k4 + 1 + 1), 13, rfl, Sr6, by omega, hl, by decide, fun r7 H7 ar7 br7 Sr7 Br7 => ?_⟩
        obtain ⟨n7, rfl, hn7⟩ := nat_of (n := 13) ar7 br7
        exact ⟨m, n7, k4 + 1 + 1 + 1, rfl, m1, m7, by omega, by omega, Sr7, ((B4.trans Br5).trans Br6).trans Br7⟩
      · exact ⟨m, n5, k4 + 1 + 1, rfl, m1, m7, by omega, by omega, Sr6, (B4.trans Br5).trans Br6⟩
    rintro _ H8 ⟨m, c, k8, rfl, m1, m7, hc, hk8, S8, B8⟩
    refine ⟨_, rfl, _, rfl, _, rfl, _, rfl, st, ns, k8, m, c, rfl, S8, by omega, hl, m1, m7, by omega, fun rs p k9 H9 lrs hrs hk9 hp0 hp9 S9 B9 => ?_⟩
    refine ⟨(by show 2 ≤ sizeLine; decide), fun t ht => ?_⟩
    have sn := Same.new (o := .tup [vN m, V.ref p]) ht
    exact q t p m rs k9 _ m1 m7 (by omega) (RulesAt.same hrs sn) upd_same (sn _ _ hp9) (stf_fresh S8 B8 hp0).1
end
end Own

namespace Own
open PySem L2
section
variable {P : Program} {w : World} {K : PySem.W.Frag} {mg : Str → Option Value} {base : Heap}
seal PySem.wpAny
abbrev sPair : Stmt := top 34
theorem scPair : FnScope ["_law_many", "_law_rules_here", "_law_part", "_law_table_here"] ["_law_many", "_law_rules_here", "_law_part", "_law_table_here"] (defScope sPair) := ⟨rfl, rfl, rfl, by decide +kernel, rfl, by decide +kernel, by decide +kernel⟩
theorem ok_pair {f fTW : Addr} {fd fdTW : FuncData} (F : Fun K "_law_pair" "_law_pair" sPair f fd) (GTW : FnOk P w K mg base CX0 5 fTW fdTW ["many", "rules", "part"] (spTwice K)) (mTW : mg "twice" = some (.ref fTW)) (kTW : PySem.W.keepIn K (.ref fTW) = true) (bTW : Binds K fdTW ["many", "rules", "part"] []) (zlist : mg "list" = none) : FnOk P w K mg base CX0 6 f fd ["_law_many", "_law_rules_here", "_law_part", "_law_table_here"] (spPair K) := by
  refine F.ok scPair (fun vs H Q E h => ?_) (fun cdv A outer s H vs Q E hr h => ?_)
  · obtain ⟨m, p, rl, d, rs, kvs, rfl, _⟩ := h
    rfl
  · obtain ⟨m, p, rl, d, rs, kvs, rfl, m7, hp, hrl, hRs, lr, hd, lk, hT, q⟩ := h
    have nd := scPair.nd
    have hr5 : Room 5 _ := hr.mono (by decide)
    refine ⟨_, (pss_cons (ps_if (pt_cmp (pc_dnotin (hu_of hr) (pv 2) (pv 3))) (pss_one (ps_dput (hu_of hr) (pv 3) (pv 2) (pe_call GTW hr5 rfl mTW kTW bTW .nil pass0 (pa_cons (pv 0) (pa_cons (pe_callTy (call_listK (K := K) rfl) (by rfl) zlist PyProof.Rows.boot_list (pa_cons (pv 1) pa_nil)) (pa_cons (pv 2) pa_nil)))) rfl)) pss_nil)
      (pss_one (ps_ret (pe_dget (hu_of hr) (pv 3) (pv 2) (fun _ _ => rfl))))), ?_⟩
    refine ⟨_, rfl, _, rfl, d, _, rfl, DGet.k (k := Sum.inl (p : Int)) hd, _, rfl, ?_⟩
    cases e : valV kvs (Sum.inl (p : Int)) with
    | some v =>
      refine iteF ?_
      exact ⟨_, rfl, _, rfl, d, v, rfl, (by rw [← e]; exact DGet.k (k := Sum.inl (p : Int)) hd), q v H kvs (But.refl _ _) hd (by omega) hT (hT p v e)⟩
    | none =>
      refine iteT ?_
      refine ⟨_, rfl, _, rfl, rl, _, rfl, .inl (SqL.of hrl), fun l1 hl1 => ?_⟩
      have s1 := Same.new (o := .lst (rs.map fun (r : Rl) => V.ref r.r)) hl1
      have hl1' : (upd H l1 (.lst (rs.map fun (r : Rl) => V.ref r.r))) l1 = some (.lst (rs.map fun (r : Rl) => V.ref r.r)) := upd_same
      generalize upd H l1 (.lst (rs.map fun (r : Rl) => V.ref r.r)) = H1 at s1 hl1'
      refine ⟨_, rfl, m, p, l1, rs, rfl, m7, hp, SqL.of hl1', hRs.same s1, lr, fun v H2 s2 hv => ?_⟩
      have s12 := s1.trans s2
      have hd2 := s12 _ _ hd
      refine ⟨_, rfl, _, rfl, d, _, rfl, DPut.k (k := Sum.inl (p : Int)) hd2 (Nat.lt_of_le_of_lt lk (by decide)), ?_⟩
      have hd3 : (upd H2 d (.dK (putK kvs (Sum.inl (p : Int)) v))) d = some (.dK (putK kvs (Sum.inl (p : Int)) v)) := upd_same
      have b3 := But.put d H2 (.dK (putK kvs (Sum.inl (p : Int)) v))
      have hv3 := hv.but b3 hd2
      have hT3 := (TabOk.put (hT.same s12) hv).but b3 hd2
      generalize upd H2 d (.dK (putK kvs (Sum.inl (p : Int)) v)) = H3 at hd3 b3 hv3 hT3
      refine ⟨_, rfl, _, rfl, d, v, rfl, ?_, ?_⟩
      · have z := DGet.k (k := Sum.inl (p : Int)) hd3
        rw [valV_put, if_pos rfl] at z
        exact z
      · exact q v H3 _ (s12.but.trans b3) hd3 (length_putK _ _ _) hT3 hv3
abbrev sManyP : Stmt := top 35
theorem scManyP : FnScope ["_law_many", "_law_rules_here", "_law_table_here", "_law_waiting", "_law_count", "_law_part", "_law_pair_here"] ["_law_many", "_law_rules_here", "_law_table_here"] (defScope sManyP) := ⟨rfl, rfl, rfl, by decide +kernel, rfl, by decide +kernel, by decide +kernel⟩
theorem ok_manyp {f fPA : Addr} {fd fdPA : FuncData} (F : Fun K "_law_many_parts" "_law_many_parts" sManyP f fd) (GPA : FnOk P w K mg base CX0 6 fPA fdPA ["_law_many", "_law_rules_here", "_law_part", "_law_table_here"] (spPair K)) (mPA : mg "_law_pair" = some (.ref fPA)) (kPA : PySem.W.keepIn K (.ref fPA) = true) (bPA : Binds K fdPA ["_law_many", "_law_rules_here", "_law_part", "_law_table_here"] []) (zlen : mg "len" = none) : FnOk P w K mg base CX0 7 f fd ["_law_many", "_law_rules_here", "_law_table_here"] (spManyP K) := by
  refine F.ok scManyP (fun vs H Q E h => ?_) (fun cdv A outer s H vs Q E hr h => ?_)
  · obtain ⟨m, rl, d, rs, kvs, rfl, _⟩ := h
    rfl
  · obtain ⟨m, rl, d, rs, kvs, rfl, m7, hrl, hRs, lr, hd, lk, hT, q⟩ := h
    have nd := scManyP.nd
    have hr6 : Room 6 _ := hr.mono (by decide)
    have pw0 : 0 < 2 ^ m := Nat.two_pow_pos m
    refine ⟨_, (pss_cons (ps_set (i := 3) nd rfl (Or.inl rfl) (pe_lst (pa_cons (pe_op op_subN (pe_op op_shl1 pe_int (pv 0)) pe_int) pa_nil)))
      (pss_cons (ps_set (i := 4) nd rfl (Or.inl rfl) pe_int)
      (pss_cons (ps_while PassesOwn.never (PW.pt (pw_and (pt_cmpR op_gtN (pe_callB (call_lenK (K := K) rfl) (by rfl) zlen PySem.boot_len (pa_cons (pv 3) pa_nil)) pe_int (nomark _)) (pw_and1 (pt_cmpR op_ltN (pv 4) pe_int (nomark _))))) (pss_cons (ps_set (i := 5) nd rfl (Or.inl rfl) (pe_bm0 PySem.F.plainAttrs_list PySem.F.slot_list_pop PySem.F.type_list_pop mt_pop (pv 3)))
      (pss_cons (ps_set (i := 4) nd rfl (Or.inl rfl) (pe_op op_addN (pv 4) pe_int))
      (pss_cons (ps_set (i := 6) nd rfl (Or.inl rfl) (pe_call GPA hr6 rfl mPA kPA bPA .nil pass0 (pa_cons (pv 0) (pa_cons (pv 1) (pa_cons (pv 5) (pa_cons (pv 2) pa_nil))))))
      (pss_one (ps_if (pt_cmpR op_notN (pv 6) pe_non (nomark _)) (pss_one (ps_set (i := 3) nd rfl (Or.inl rfl) (pe_op op_cat (pv 3) (pe_lst (pa_cons (pe_op op_orN (pe_ix (ix_tupK (K := K) rfl) (pv 6) pe_int (fun _ _ => rfl)) (pe_ix (ix_tupK (K := K) rfl) (pv 6) pe_int (fun _ _ => rfl))) (pa_cons (pe_op op_andInv (pv 5) (pe_un un_inv (pe_ix (ix_tupK (K := K) rfl) (pv 6) pe_int (fun _ _ => rfl)))) pa_nil)))))) pss_nil))))))
      (pss_one (ps_ret (pv 4)))))), ?_⟩
    refine ⟨_, rfl, m, rfl, rfl, by omega, 2 ^ m, 1, rfl, rfl, pw0, (by show 1 ≤ sizeLine; decide), fun w0 hw0 => ?_⟩
    have s0 := Same.new (o := .lst [vN (2 ^ m - 1)]) hw0
    have e0 : 0 + cntL m (rs.map Rl.d) [2 ^ m - 1] = (trP m (rs.map Rl.d) (2 ^ m - 1)).cnt := by unfold cntL; simp
    refine ⟨fun n σ H' => ∃ (wp : Addr) (ps : List Nat) (c : Nat) (kv : List (Key × V)) (v5 v6 : Option V), σ = [some (vN m), some (.ref rl), some (.ref d), some (.ref wp), some (vN c), v5, v6] ∧ n = 61 - c ∧ c ≤ 61 ∧ But d H H' ∧ H wp = none ∧ H' wp = some (.lst (ps.map vN)) ∧ (∀ x ∈ ps, x < 2 ^ m) ∧ ps.length ≤ 1 + c ∧ c + cntL m (rs.map Rl.d) ps = (trP m (rs.map Rl.d) (2 ^ m - 1)).cnt ∧ H' d = some (.dK kv) ∧ kv.length ≤ kvs.length + c ∧ TabOk m (rs.map Rl.d) H' kv,
      ⟨_, w0, [2 ^ m - 1], 0, kvs, none, none, rfl, rfl, by omega, s0.but, hw0, upd_same, (fun x hx => by rw [List.mem_singleton.mp hx]; omega), by simp, e0, s0 _ _ hd, by omega, hT.same s0⟩, ?_⟩
    rintro n _ H1 ⟨wp, ps, c, kv, v5, v6, rfl, en, hc, b1, hw, hw1, hps, lps, ec, hd1, lkv, hT1⟩
    have out : (60 < c ↔ 60 < (trP m (rs.map Rl.d) (2 ^ m - 1)).cnt) → ∃ v, ([some (vN m), some (.ref rl), some (.ref d), some (.ref wp), some (vN c), v5, v6] : St)[4]? = some (some v) ∧ Q v H1 := fun hz => ⟨_, rfl, q c H1 kv b1 hd1 (by omega) hT1 hz⟩
    refine ⟨_, rfl, wp, _, rfl, .inl (SqL.of hw1), (ps.map vN).length, 0, rfl, rfl, _, rfl, ite2 (fun h0 => ?_) (fun h0 => iteF (out ?_))⟩
    rotate_left
    · have : ps = [] := by
        cases ps with
        | nil => rfl
        | cons x l => exact absurd (decide_eq_true (by simp)) h0
      subst this
      have ez : cntL m (rs.map Rl.d) [] = 0 := rfl
      omega
    refine ⟨_, rfl, c, 61, rfl, rfl, _, rfl, ite2 (fun h6 => ?_) (fun h6 => out ?_)⟩
    rotate_left
    · have : ¬ c < 61 := fun z => h6 (decide_eq_true z)
      omega
    have c61 : c < 61 := of_decide_eq_true h6
    have l0 : 0 < ps.length := by have := of_decide_eq_true h0; rwa [List.length_map] at this
    obtain ⟨ps', x, rfl⟩ : ∃ ps' x, ps = ps' ++ [x] := ⟨ps.dropLast, ps.getLast (by intro z; rw [z] at l0; exact absurd l0 (by decide)), (List.dropLast_concat_getLast _).symm⟩
    have hx : x < 2 ^ m := hps x (by simp)
    have hps' : ∀ y ∈ ps', y < 2 ^ m := fun y hy => hps y (by simp [hy])
    have lp' : ps'.length ≤ c := by rw [List.length_append] at lps; simp at lps; omega
    have em : (ps' ++ [x]).map vN = ps'.map vN ++ [vN x] := by rw [List.map_append]; rfl
    rw [em] at hw1
    refine ⟨_, fun _ _ h => h, ?_⟩
    refine ⟨_, rfl, .inl ⟨rfl, _, SqL.of hw1⟩, wp, _, vN x, rfl, rfl, hw1, (by simp), ?_⟩
    rw [List.dropLast_concat]
    have wd : wp ≠ d := ne_of hw1 hd1 (by intro z; cases z)
    have b2 : But d H (upd H1 wp (.lst (ps'.map vN))) := b1.own hw
    have hw2 : (upd H1 wp (.lst (ps'.map vN))) wp = some (.lst (ps'.map vN)) := upd_same
    have hd2 : (upd H1 wp (.lst (ps'.map vN))) d = some (.dK kv) := by rw [upd_ne wd.symm]; exact hd1
    have hT2 : TabOk m (rs.map Rl.d) (upd H1 wp (.lst (ps'.map vN))) kv := fun p v z => (hT1 p v z).put hw1
    generalize upd H1 wp (.lst (ps'.map vN)) = H2 at b2 hw2 hd2 hT2
    have hrl2 := but_lst b2 hd hrl
    have hRs2 := hRs.butD b2 hd
    refine ⟨_, rfl, c, 1, rfl, rfl, ?_⟩
    refine ⟨_, rfl, _, rfl, _, rfl, _, rfl, m, x, rl, d, rs, kv, rfl, m7, hx, hrl2, hRs2, lr, hd2, by omega, hT2, fun v H3 kv3 b3 hd3 lk3 hT3 hv => ?_⟩
    have b23 := b2.trans b3
    have hw3 := but_lst b3 hd2 hw2
    cases e : twF m (rs.map Rl.d) x with
    | none =>
      rw [e] at hv
      obtain rfl := (show v = V.non from hv)
      refine ⟨_, rfl, rfl, _, rfl, iteF ?_⟩
      rw [cntL_none e] at ec
      exact ⟨61 - (c + 1), by omega, wp, ps', c + 1, kv3, _, _, rfl, rfl, by omega, b23, hw, hw3, hps', by omega, by omega, hd3, by omega, hT3⟩
    | some u =>
      rw [e] at hv
      obtain ⟨a, rfl, ha⟩ := hv
      have z := tw_ok hx e
      have z1 := z.one
      have z2 := z.oth
      refine ⟨_, rfl, rfl, _, rfl, iteT ?_⟩
      refine ⟨_, rfl, _, rfl, a, _, _, _, rfl, rfl, SqT.of ha, atI_nat (j := 0) rfl, _, rfl, a, _, _, _, rfl, rfl, SqT.of ha, atI_nat (j := 1) rfl, u.1, u.2, rfl, rfl, _, rfl, _, rfl, a, _, _, _, rfl, rfl, SqT.of ha, atI_nat (j := 1) rfl, (u.2 : Int), rfl, x, u.2, rfl, rfl, (by show 2 ≤ sizeLine; decide), fun l4 hl4 => ?_⟩
      have s4 := Same.new (o := .lst [vN (u.1 ||| u.2), vN (x - (x &&& u.2))]) hl4
      have hw4 := s4 _ _ hw3
      have hd4 := s4 _ _ hd3
      have hT4 := hT3.same s4
      have hl4' : (upd H3 l4 (.lst [vN (u.1 ||| u.2), vN (x - (x &&& u.2))])) l4 = some (.lst [vN (u.1 ||| u.2), vN (x - (x &&& u.2))]) := upd_same
      have b4 := b23.trans s4.but
      have hl4H : H l4 = none := by
        cases z : H l4 with
        | none => rfl
        | some o =>
          by_cases ed : l4 = d
          · subst ed; rw [hd3] at hl4; cases hl4
          · have := b23 _ _ z ed; rw [hl4] at this; cases this
      generalize upd H3 l4 (.lst [vN (u.1 ||| u.2), vN (x - (x &&& u.2))]) = H4 at hw4 hd4 hT4 hl4' b4
      refine ⟨wp, l4, _, _, rfl, rfl, hw4, hl4', Nat.le_of_lt (small1000 (by rw [List.length_map]; show _ + 2 ≤ 1000; omega)), fun w5 hw5 => ?_⟩
      have s5 := Same.new (o := .lst (ps'.map vN ++ [vN (u.1 ||| u.2), vN (x - (x &&& u.2))])) hw5
      have hw5H : H w5 = none := by
        cases z : H w5 with
        | none => rfl
        | some o =>
          by_cases ed : w5 = d
          · subst ed; rw [hd4] at hw5; cases hw5
          · have := b4 _ _ z ed; rw [hw5] at this; cases this
      rw [cntL_some hx e] at ec
      refine ⟨61 - (c + 1), by omega, w5, ps' ++ [u.1 ||| u.2, x - (x &&& u.2)], c + 1, kv3, _, _, rfl, rfl, by omega, b4.trans s5.but, hw5H, by rw [upd_same, List.map_append]; rfl, fun y hy => ?_, by rw [List.length_append]; show _ + 2 ≤ _; omega, by omega, s5 _ _ hd4, by omega, hT4.same s5⟩
      rcases List.mem_append.mp hy with hy | hy
      · exact hps' y hy
      · rcases List.mem_cons.mp hy with rfl | hy
        · omega
        · rw [List.mem_singleton.mp hy]; omega
end
end Own

namespace Own
open PySem L2
section
variable {P : Program} {w : World} {K : PySem.W.Frag} {mg : Str → Option Value} {base : Heap}
seal PySem.wpAny
abbrev sWhole : Stmt := top 36
theorem scWhole : FnScope ["_law_found"] ["_law_found"] (defScope sWhole) := ⟨rfl, rfl, rfl, by decide +kernel, rfl, by decide +kernel, by decide +kernel⟩
theorem ok_whole {f : Addr} {fd : FuncData} (F : Fun K "_law_whole" "_law_whole" sWhole f fd) (zisinstance : mg "isinstance" = none) (zint : mg "int" = none) (zbool : mg "bool" = none) : FnOk P w K mg base CX0 1 f fd ["_law_found"] spWholeI := by
  refine F.ok scWhole (fun vs H Q E h => ?_) (fun cdv A outer s H vs Q E hr h => ?_)
  · obtain ⟨i, rfl, _⟩ := h
    rfl
  · obtain ⟨i, rfl, q⟩ := h
    refine ⟨_, (pss_one (ps_ret (pe_and (pe_callB (call_isK (K := K) rfl) (by rfl) zisinstance PyProof.Rows.boot_isinstance (pa_cons (pv 0) (pa_cons (pe_bltn (v := .ty "int") rfl zint PyProof.Rows.boot_int rfl) pa_nil))) (pe_one (pe_not (pe_callB (call_isK (K := K) rfl) (by rfl) zisinstance PyProof.Rows.boot_isinstance (pa_cons (pv 0) (pa_cons (pe_bltn (v := .ty "bool") rfl zbool PyProof.Rows.boot_bool rfl) pa_nil)))))))), ?_⟩
    refine ⟨_, rfl, _, _, _, true, rfl, .int _, rfl, _, rfl, ?_⟩
    refine iteT ?_
    exact ⟨_, rfl, _, _, _, false, rfl, .int _, rfl, _, rfl, q⟩
abbrev sRight : Stmt := top 37
theorem scRight : FnScope ["_law_many", "_law_rules_here", "_law_tree", "_law_part", "_law_table_here", "_law_pair_here", "_law_one", "_law_other"] ["_law_many", "_law_rules_here", "_law_tree", "_law_part", "_law_table_here"] (defScope sRight) := ⟨rfl, rfl, rfl, by decide +kernel, rfl, by decide +kernel, by decide +kernel⟩
theorem ok_right {f fPA fW : Addr} {fd fdPA fdW : FuncData} (F : Fun K "_law_right" "_law_right" sRight f fd) (GPA : FnOk P w K mg base CX0 6 fPA fdPA ["_law_many", "_law_rules_here", "_law_part", "_law_table_here"] (spPair K)) (mPA : mg "_law_pair" = some (.ref fPA)) (kPA : PySem.W.keepIn K (.ref fPA) = true) (bPA : Binds K fdPA ["_law_many", "_law_rules_here", "_law_part", "_law_table_here"] []) (GW : FnOk P w K mg base CX0 1 fW fdW ["_law_found"] spWholeI) (mW : mg "_law_whole" = some (.ref fW)) (kW : PySem.W.keepIn K (.ref fW) = true) (bW : Binds K fdW ["_law_found"] []) (mRI : mg "_law_right" = some (.ref f)) (kRI : PySem.W.keepIn K (.ref f) = true) (bRI : Binds K fd ["_law_many", "_law_rules_here", "_law_tree", "_law_part", "_law_table_here"] []) (zisinstance : mg "isinstance" = none) (ztuple : mg "tuple" = none) (zlen : mg "len" = none) : ∀ n : Nat, FnOk P w K mg base CX0 (n + 7) f fd ["_law_many", "_law_rules_here", "_law_tree", "_law_part", "_law_table_here"] (spRight62 K n)
  | 0 => by
    refine F.ok (k := 6) scRight (fun vs H Q E h => ?_) (fun cdv A outer s H vs Q E hr h => ?_)
    · obtain ⟨m, p, v, rl, d, rs, kvs, rfl, _⟩ := h
      rfl
    · obtain ⟨m, p, v, rl, d, rs, kvs, rfl, m7, hp, hn, _⟩ := h
      exact absurd hn (Nat.not_lt_zero _)
  | n + 1 => by
    have GRI := ok_right F GPA mPA kPA bPA GW mW kW bW mRI kRI bRI zisinstance ztuple zlen n
    refine F.ok (k := n + 7) scRight (fun vs H Q E h => ?_) (fun cdv A outer s H vs Q E hr h => ?_)
    · obtain ⟨m, p, v, rl, d, rs, kvs, rfl, _⟩ := h
      rfl
    obtain ⟨m, p, v, rl, d, rs, kvs, rfl, m7, hp, hn, hrl, hRs, lr, hd, lk, hT, tv, q⟩ := h
    have nd := scRight.nd
    have hr1 : Room 1 _ := hr.mono (by omega)
    have hr6 : Room 6 _ := hr.mono (by omega)
    refine ⟨_, (pss_cons (ps_if (PW.pt (pw_or (pt_not (pt_val (pe_callB (call_isK (K := K) rfl) (by rfl) zisinstance PyProof.Rows.boot_isinstance (pa_cons (pv 2) (pa_cons (pe_bltn (v := .ty "tuple") rfl ztuple PyProof.Rows.boot_tuple rfl) pa_nil))))) (pw_or (pt_cmpR op_ltN (pe_callB (call_lenK (K := K) rfl) (by rfl) zlen PySem.boot_len (pa_cons (pv 2) pa_nil)) pe_int (nomark _)) (pw_or (pt_not (pt_val (pe_call GW hr1 rfl mW kW bW .nil pass0 (pa_cons (pe_ix (ix_tupK (K := K) rfl) (pv 2) pe_int (fun _ _ => rfl)) pa_nil)))) (pw_or1 (pt_cmpR op_neN (pe_ix (ix_tupK (K := K) rfl) (pv 2) pe_int (fun _ _ => rfl)) (pv 3) (nomark _))))))) (pss_one (ps_ret pe_bl)) pss_nil)
      (pss_cons (ps_set (i := 5) nd rfl (Or.inl rfl) (pe_call GPA hr6 rfl mPA kPA bPA .nil pass0 (pa_cons (pv 0) (pa_cons (pv 1) (pa_cons (pv 3) (pa_cons (pv 4) pa_nil))))))
      (pss_cons (ps_if (pt_cmpR op_isN (pv 5) pe_non (nomark _)) (pss_one (ps_ret (pe_and (pe_cmpR op_eqN (pe_callB (call_lenK (K := K) rfl) (by rfl) zlen PySem.boot_len (pa_cons (pv 2) pa_nil)) pe_int (nomark _)) (pe_one (pe_cmpR op_eq (pe_ix (ix_tupK (K := K) rfl) (pv 2) pe_int (fun _ _ => rfl)) pe_str (nomark _)))))) pss_nil)
      (pss_cons (ps_if (PW.pt (pw_or (pt_cmpR op_neN (pe_callB (call_lenK (K := K) rfl) (by rfl) zlen PySem.boot_len (pa_cons (pv 2) pa_nil)) pe_int (nomark _)) (pw_or (pt_cmpR op_ne (pe_ix (ix_tupK (K := K) rfl) (pv 2) pe_int (fun _ _ => rfl)) pe_str (nomark _)) (pw_or (pt_not (pt_val (pe_call GW hr1 rfl mW kW bW .nil pass0 (pa_cons (pe_ix (ix_tupK (K := K) rfl) (pv 2) pe_int (fun _ _ => rfl)) pa_nil)))) (pw_or1 (pt_not (pt_val (pe_call GW hr1 rfl mW kW bW .nil pass0 (pa_cons (pe_ix (ix_tupK (K := K) rfl) (pv 2) pe_int (fun _ _ => rfl)) pa_nil))))))))) (pss_one (ps_ret pe_bl)) pss_nil)
      (pss_cons (ps_if (pt_cmpR (op_neD (K := K) rfl hr.units) (pe_tup (pa_cons (pe_ix (ix_tupK (K := K) rfl) (pv 2) pe_int (fun _ _ => rfl)) (pa_cons (pe_ix (ix_tupK (K := K) rfl) (pv 2) pe_int (fun _ _ => rfl)) pa_nil))) (pv 5) (nomark _)) (pss_one (ps_ret pe_bl)) pss_nil)
      (pss_cons (ps_set (i := 6) nd rfl (Or.inl rfl) (pe_op op_orN (pe_ix (ix_tupK (K := K) rfl) (pv 5) pe_int (fun _ _ => rfl)) (pe_ix (ix_tupK (K := K) rfl) (pv 5) pe_int (fun _ _ => rfl))))
      (pss_cons (ps_set (i := 7) nd rfl (Or.inl rfl) (pe_op op_andInv (pv 3) (pe_un un_inv (pe_ix (ix_tupK (K := K) rfl) (pv 5) pe_int (fun _ _ => rfl)))))
      (pss_cons (ps_if (PW.pt (pw_or (pt_cmpR op_eqN (pv 6) (pv 3) (nomark _)) (pw_or (pt_cmpR op_eqN (pv 7) (pv 3) (nomark _)) (pw_or1 (pt_cmpR op_neN (pe_op op_orN (pv 6) (pv 7)) (pv 3) (nomark _)))))) (pss_one (ps_ret pe_bl)) pss_nil)
      (pss_one (ps_ret (pe_and (pe_call GRI hr rfl mRI kRI bRI .nil pass0 (pa_cons (pv 0) (pa_cons (pv 1) (pa_cons (pe_ix (ix_tupK (K := K) rfl) (pv 2) pe_int (fun _ _ => rfl)) (pa_cons (pv 6) (pa_cons (pv 4) pa_nil)))))) (pe_one (pe_call GRI hr rfl mRI kRI bRI .nil pass0 (pa_cons (pv 0) (pa_cons (pv 1) (pa_cons (pe_ix (ix_tupK (K := K) rfl) (pv 2) pe_int (fun _ _ => rfl)) (pa_cons (pv 7) (pa_cons (pv 4) pa_nil)))))))))))))))))), ?_⟩
    cases e : twF m (rs.map Rl.d) p with
    | none =>
      rw [trP_none e] at tv q lk
      obtain ⟨a, rfl, ha⟩ := tv
      refine ⟨_, rfl, _, _, _, true, rfl, .tup ha, rfl, _, rfl, iteF ?_⟩
      refine ⟨_, rfl, a, _, rfl, .inr (SqT.of ha), 2, 2, rfl, rfl, _, rfl, iteF ?_⟩
      refine ⟨_, rfl, a, _, _, _, rfl, rfl, SqT.of ha, atI_nat (j := 1) rfl, _, rfl, _, rfl, iteF ?_⟩
      refine ⟨_, rfl, a, _, _, _, rfl, rfl, SqT.of ha, atI_nat (j := 1) rfl, _, rfl, p, p, rfl, rfl, _, rfl, iteNS rfl ?_⟩
      have lk' : kvs.length + 1 ≤ 5000 := lk
      refine ⟨_, rfl, _, rfl, _, rfl, _, rfl, m, p, rl, d, rs, kvs, rfl, m7, hp, hrl, hRs, lr, hd, by omega, hT, fun v1 H1 kv1 b1 hd1 lk1 hT1 hv => ?_⟩
      rw [e] at hv
      obtain rfl := (show v1 = V.non from hv)
      have ha1 := but_tup b1 hd ha
      refine ⟨_, rfl, rfl, _, rfl, iteT ?_⟩
      refine ⟨_, rfl, a, _, rfl, .inr (SqT.of ha1), 2, 2, rfl, rfl, _, rfl, iteT ?_⟩
      exact ⟨_, rfl, a, _, _, _, rfl, rfl, SqT.of ha1, atI_nat (j := 0) rfl, rfl, q H1 kv1 b1 hd1 lk1 hT1⟩
    | some u =>
      have z := tw_ok hp e
      have z1 := z.one
      have z2 := z.oth
      have zo := tw_or hp e
      rw [trP_some hp e] at tv q lk
      obtain ⟨a, x, y, rfl, ha, hl, hr'⟩ := tv
      have lk' : kvs.length + (1 + (trP m (rs.map Rl.d) (u.1 ||| u.2)).cnt + (trP m (rs.map Rl.d) (p - (p &&& u.2))).cnt) ≤ 5000 := lk
      refine ⟨_, rfl, _, _, _, true, rfl, .tup ha, rfl, _, rfl, iteF ?_⟩
      refine ⟨_, rfl, a, _, rfl, .inr (SqT.of ha), 6, 2, rfl, rfl, _, rfl, iteF ?_⟩
      refine ⟨_, rfl, a, _, _, _, rfl, rfl, SqT.of ha, atI_nat (j := 1) rfl, _, rfl, _, rfl, iteF ?_⟩
      refine ⟨_, rfl, a, _, _, _, rfl, rfl, SqT.of ha, atI_nat (j := 1) rfl, _, rfl, p, p, rfl, rfl, _, rfl, iteNS rfl ?_⟩
      refine ⟨_, rfl, _, rfl, _, rfl, _, rfl, m, p, rl, d, rs, kvs, rfl, m7, hp, hrl, hRs, lr, hd, by omega, hT, fun v1 H1 kv1 b1 hd1 lk1 hT1 hv => ?_⟩
      rw [e] at hv
      obtain ⟨b, rfl, hb⟩ := hv
      have ha1 := but_tup b1 hd ha
      refine ⟨_, rfl, rfl, _, rfl, iteF ?_⟩
      refine ⟨_, rfl, a, _, rfl, .inr (SqT.of ha1), 6, 6, rfl, rfl, _, rfl, iteNS rfl ?_⟩
      refine ⟨_, rfl, a, _, _, _, rfl, rfl, SqT.of ha1, atI_nat (j := 0) rfl, rfl, _, rfl, iteNS rfl ?_⟩
      refine ⟨_, rfl, a, _, _, _, rfl, rfl, SqT.of ha1, atI_nat (j := 2) rfl, _, rfl, _, rfl, iteF ?_⟩
      refine ⟨_, rfl, a, _, _, _, rfl, rfl, SqT.of ha1, atI_nat (j := 3) rfl, _, rfl, _, rfl, iteF ?_⟩
      refine ⟨_, rfl, a, _, _, _, rfl, rfl, SqT.of ha1, atI_nat (j := 2) rfl, _, rfl, a, _, _, _, rfl, rfl, SqT.of ha1, atI_nat (j := 3) rfl, (by show 2 ≤ sizeLine; decide), fun t ht => ?_⟩
      have s2 := Same.new (o := .tup [vN u.1, vN u.2]) ht
      have ht2 : (upd H1 t (.tup [vN u.1, vN u.2])) t = some (.tup [vN u.1, vN u.2]) := upd_same
      have hb2 := s2 _ _ hb
      have b2 := b1.trans s2.but
      have hd2 := s2 _ _ hd1
      have hT2 := hT1.same s2
      generalize upd H1 t (.tup [vN u.1, vN u.2]) = H2 at ht2 hb2 b2 hd2 hT2
      have dv : ∀ t : Addr, H2 t = some (.tup [vN u.1, vN u.2]) → DV K H2 (.ref t) (dP ((u.1 : Int), (u.2 : Int))) := fun t ht => .tup (SqT.of ht) (.cons (.int _) (.cons (.int _) .nil))
      refine ⟨_, rfl, dP ((u.1 : Int), (u.2 : Int)), dP ((u.1 : Int), (u.2 : Int)), dv t ht2, dv b hb2, shaped_dP _, shaped_dP _, noMix_dP _ _, _, rfl, ?_⟩
      rw [if_pos rfl, same_dP, decide_eq_true rfl]
      refine iteF ?_
      refine ⟨_, rfl, b, _, _, _, rfl, rfl, SqT.of hb2, atI_nat (j := 0) rfl, _, rfl, b, _, _, _, rfl, rfl, SqT.of hb2, atI_nat (j := 1) rfl, u.1, u.2, rfl, rfl, ?_⟩
      refine ⟨_, rfl, _, rfl, b, _, _, _, rfl, rfl, SqT.of hb2, atI_nat (j := 1) rfl, (u.2 : Int), rfl, p, u.2, rfl, rfl, ?_⟩
      refine ⟨_, rfl, _, rfl, u.1 ||| u.2, p, rfl, rfl, _, rfl, ?_⟩
      rw [decide_eq_false (show ¬ u.1 ||| u.2 = p by omega)]
      refine iteF ?_
      refine ⟨_, rfl, _, rfl, p - (p &&& u.2), p, rfl, rfl, _, rfl, ?_⟩
      rw [decide_eq_false (show ¬ p - (p &&& u.2) = p by omega)]
      refine iteF ?_
      refine ⟨_, rfl, _, rfl, u.1 ||| u.2, p - (p &&& u.2), rfl, rfl, _, rfl, (u.1 ||| u.2) ||| (p - (p &&& u.2)), p, rfl, rfl, _, rfl, ?_⟩
      rw [zo, decide_eq_true rfl]
      refine iteF ?_
      have ha2 := but_tup b2 hd ha
      have hrl2 := but_lst b2 hd hrl
      have hRs2 := hRs.butD b2 hd
      refine ⟨_, rfl, _, rfl, _, rfl, a, _, _, _, rfl, rfl, SqT.of ha2, atI_nat (j := 4) rfl, _, rfl, _, rfl, m, u.1 ||| u.2, x, rl, d, rs, kv1, rfl, m7, by omega, by omega, hrl2, hRs2, lr, hd2, by omega, hT2, hl.but b2 hd, fun H3 kv3 b3 hd3 lk3 hT3 => ?_⟩
      refine ⟨_, rfl, iteT ?_⟩
      have b23 := b2.trans b3
      have ha3 := but_tup b23 hd ha
      refine ⟨_, rfl, _, rfl, _, rfl, a, _, _, _, rfl, rfl, SqT.of ha3, atI_nat (j := 5) rfl, _, rfl, _, rfl, m, p - (p &&& u.2), y, rl, d, rs, kv3, rfl, m7, by omega, by omega, but_lst b23 hd hrl, hRs.butD b23 hd, lr, hd3, by omega, hT3, hr'.but b23 hd, fun H4 kv4 b4 hd4 lk4 hT4 => ?_⟩
      exact q H4 kv4 (b23.trans b4) hd4 (by show _ ≤ kvs.length + (1 + (trP m (rs.map Rl.d) (u.1 ||| u.2)).cnt + (trP m (rs.map Rl.d) (p - (p &&& u.2))).cnt); omega) hT4
end
end Own

namespace Own
open PySem L2
section
variable {P : Program} {w : World} {K : PySem.W.Frag} {mg : Str → Option Value} {base : Heap}
seal PySem.wpAny
abbrev sEnds : Stmt := top 38
theorem scEnds : FnScope ["_law_tree", "_law_waiting", "_law_ends_here", "_law_node"] ["_law_tree"] (defScope sEnds) := ⟨rfl, rfl, rfl, by decide +kernel, rfl, by decide +kernel, by decide +kernel⟩
theorem ok_ends {f : Addr} {fd : FuncData} (F : Fun K "_law_ends" "_law_ends" sEnds f fd) (zlen : mg "len" = none) : FnOk P w K mg base CX0 1 f fd ["_law_tree"] spEnds62 := by
  refine F.ok scEnds (fun vs H Q E h => ?_) (fun cdv A outer s H vs Q E hr h => ?_)
  · obtain ⟨v, t, rfl, _⟩ := h
    rfl
  · obtain ⟨v, t, rfl, tv, h60, q⟩ := h
    have nd := scEnds.nd
    refine ⟨_, (pss_cons (ps_set (i := 1) nd rfl (Or.inl rfl) (pe_lst (pa_cons (pv 0) pa_nil)))
      (pss_cons (ps_set (i := 2) nd rfl (Or.inl rfl) (pe_lst pa_nil))
      (pss_cons (ps_while PassesOwn.never (pt_cmpR op_gtN (pe_callB (call_lenK (K := K) rfl) (by rfl) zlen PySem.boot_len (pa_cons (pv 1) pa_nil)) pe_int (nomark _)) (pss_cons (ps_set (i := 3) nd rfl (Or.inl rfl) (pe_bm0 PySem.F.plainAttrs_list PySem.F.slot_list_pop PySem.F.type_list_pop mt_pop (pv 1)))
      (pss_one (ps_if (pt_cmpR op_eq (pe_ix (ix_tupK (K := K) rfl) (pv 3) pe_int (fun _ _ => rfl)) pe_str (nomark _)) (pss_one (ps_expr (pe_bm PySem.F.plainAttrs_list PySem.F.slot_list_append PySem.F.type_list_append mt_append (pv 2) (pa_cons (pe_ix (ix_tupK (K := K) rfl) (pv 3) pe_int (fun _ _ => rfl)) pa_nil)))) (pss_one (ps_set (i := 1) nd rfl (Or.inl rfl) (pe_op op_cat (pv 1) (pe_lst (pa_cons (pe_ix (ix_tupK (K := K) rfl) (pv 3) pe_int (fun _ _ => rfl)) (pa_cons (pe_ix (ix_tupK (K := K) rfl) (pv 3) pe_int (fun _ _ => rfl)) pa_nil))))))))))
      (pss_one (ps_ret (pv 2)))))), ?_⟩
    refine ⟨_, rfl, (by show 1 ≤ sizeLine; decide), fun w0 hw0 => ?_⟩
    have s0 := Same.new (o := .lst [v]) hw0
    refine ⟨Nat.zero_le _, fun ep hep => ?_⟩
    have s1 := Same.new (o := .lst []) hep
    have hepH := s0.none hep
    have hw1 := s1 _ _ (show (upd H w0 (.lst [v])) w0 = some (.lst [v]) from upd_same)
    have nwe : w0 ≠ ep := ne_of_none (show (upd H w0 (.lst [v])) w0 = some (.lst [v]) from upd_same) hep
    have ll := t.lvs_le
    refine ⟨fun n σ H' => ∃ (wp : Addr) (ts : List Tr) (us : List V) (es : List Nat) (v3 : Option V), σ = [some v, some (.ref wp), some (.ref ep), v3] ∧ n = cntT ts ∧ cntT ts ≤ 60 ∧ Same H H' ∧ H wp = none ∧ wp ≠ ep ∧ H' wp = some (.lst us) ∧ TreesV H' ts us ∧ H' ep = some (.lst (es.map vN)) ∧ es ++ lvsL ts = t.lvs,
      ⟨_, w0, [t], [v], [], none, rfl, rfl, by unfold cntT; simpa using h60, s0.trans s1, hw0, nwe, hw1, .cons ((tv.same s0).same s1) .nil, upd_same, by unfold lvsL; simp⟩, ?_⟩
    rintro n _ H1 ⟨wp, ts, us, es, v3, rfl, en, c60, s2, hw, nw, hw2, hts, he2, el⟩
    refine ⟨_, rfl, wp, _, rfl, .inl (SqL.of hw2), us.length, 0, rfl, rfl, _, rfl, ite2 (fun h0 => ?_) (fun h0 => ?_)⟩
    rotate_left
    · have lu : us = [] := by
        cases us with
        | nil => rfl
        | cons x l => exact absurd (decide_eq_true (by simp)) h0
      subst lu
      cases hts
      rw [show lvsL [] = [] from rfl, List.append_nil] at el
      rw [el] at he2
      exact ⟨_, rfl, q ep _ s2 hepH he2⟩
    have l0 : 0 < us.length := of_decide_eq_true h0
    obtain ⟨us', u, rfl⟩ : ∃ us' u, us = us' ++ [u] := ⟨us.dropLast, us.getLast (by intro z; rw [z] at l0; exact absurd l0 (by decide)), (List.dropLast_concat_getLast _).symm⟩
    obtain ⟨ts', t1, rfl, hts', ht1⟩ := hts.snoc
    have cpos := t1.cnt_pos
    have ec : cntT (ts' ++ [t1]) = cntT ts' + t1.cnt := by rw [cntT_app]; unfold cntT; simp
    have lts := hts'.len
    have lc := cntT_len ts'
    refine ⟨_, fun _ _ h => h, ?_⟩
    refine ⟨_, rfl, .inl ⟨rfl, _, SqL.of hw2⟩, wp, _, u, rfl, rfl, hw2, (by simp), ?_⟩
    rw [List.dropLast_concat]
    have s3 : Same H (upd H1 wp (.lst us')) := s2.own hw
    have hw3 : (upd H1 wp (.lst us')) wp = some (.lst us') := upd_same
    have he3 : (upd H1 wp (.lst us')) ep = some (.lst (es.map vN)) := by rw [upd_ne nw.symm]; exact he2
    have hts3 := hts'.put (o := .lst us') hw2
    have ht3 := ht1.put (o := .lst us') hw2
    generalize upd H1 wp (.lst us') = H3 at s3 hw3 he3 hts3 ht3
    have les : es.length ≤ 60 := by
      have : (es ++ lvsL (ts' ++ [t1])).length = t.lvs.length := by rw [el]
      rw [List.length_append] at this
      omega
    cases t1 with
    | whole p =>
      obtain ⟨a, rfl, ha⟩ := ht3
      refine ⟨_, rfl, a, _, _, _, rfl, rfl, SqT.of ha, atI_nat (j := 0) rfl, rfl, _, rfl, iteT ?_⟩
      refine ⟨_, rfl, .inl ⟨rfl, _, SqL.of he3⟩, _, rfl, a, _, _, _, rfl, rfl, SqT.of ha, atI_nat (j := 1) rfl, ep, _, _, rfl, rfl, he3, small1000 (by rw [List.length_map]; omega), ?_⟩
      have hts4 := hts3.put (o := .lst (es.map vN ++ [vN p])) he3
      refine ⟨cntT ts', by rw [en, ec]; show _ < _ + 1; omega, wp, ts', us', es ++ [p], _, rfl, rfl, by omega, s3.own hepH, hw, nw, by rw [upd_ne nw]; exact hw3, hts4, by rw [upd_same, List.map_append]; rfl, ?_⟩
      rw [← el, lvsL_whole, List.append_assoc]
      rfl
    | cut p s1 g l r =>
      obtain ⟨a, x, y, rfl, ha, hl, hr'⟩ := ht3
      refine ⟨_, rfl, a, _, _, _, rfl, rfl, SqT.of ha, atI_nat (j := 0) rfl, rfl, _, rfl, ite2 (fun hc => ?_) (fun _ => ?_)⟩
      · exact absurd (of_decide_eq_true hc) (by intro z; injection z with z; revert z; decide)
      have ecut : (Tr.cut p s1 g l r).cnt = 1 + l.cnt + r.cnt := rfl
      refine ⟨_, rfl, _, rfl, a, _, _, _, rfl, rfl, SqT.of ha, atI_nat (j := 5) rfl, _, rfl, a, _, _, _, rfl, rfl, SqT.of ha, atI_nat (j := 4) rfl, (by show 2 ≤ sizeLine; decide), fun l4 hl4 => ?_⟩
      have s4 := Same.new (o := .lst [y, x]) hl4
      have hl4' : (upd H3 l4 (.lst [y, x])) l4 = some (.lst [y, x]) := upd_same
      have hw4 := s4 _ _ hw3
      have he4 := s4 _ _ he3
      have hts4 := hts3.same s4
      have hl5 := hl.same s4
      have hr5 := hr'.same s4
      have s34 := s3.trans s4
      generalize upd H3 l4 (.lst [y, x]) = H4 at hl4' hw4 he4 hts4 hl5 hr5 s34
      refine ⟨wp, l4, us', [y, x], rfl, rfl, hw4, hl4', Nat.le_of_lt (small1000 (by show _ + 2 ≤ 1000; omega)), fun w5 hw5 => ?_⟩
      have s5 := Same.new (o := .lst (us' ++ [y, x])) hw5
      have ne5 : w5 ≠ ep := (ne_of_none he4 hw5).symm
      refine ⟨cntT (ts' ++ [r, l]), ?_, w5, ts' ++ [r, l], us' ++ [y, x], es, _, rfl, rfl, ?_, s34.trans s5, s34.none hw5, ne5, upd_same, (hts4.same s5).app (.cons (hr5.same s5) (.cons (hl5.same s5) .nil)), s5 _ _ he4, ?_⟩
      · rw [en, ec, cntT_app]
        unfold cntT
        simp
        omega
      · rw [cntT_app]
        have : cntT [r, l] = r.cnt + l.cnt := by unfold cntT; simp
        omega
      · rw [← el, lvsL_cut]
abbrev sRefused : Stmt := top 39
theorem scRefused : FnScope ["_law_many", "_law_rules_here", "_law_caught", "error"] ["_law_many", "_law_rules_here"] (defScope sRefused) := ⟨rfl, rfl, rfl, by decide +kernel, rfl, by decide +kernel, by decide +kernel⟩
theorem ok_refused {f fCT : Addr} {fd fdCT : FuncData} (F : Fun K "_law_refused" "_law_refused" sRefused f fd) {CCN : Addr} (mCN : mg "NoCut" = some (.ref CCN)) {CRW : Addr} (mRW : mg "NoRow" = some (.ref CRW)) {CST : Addr} (mST : mg "NoSet" = some (.ref CST)) {CTX : Addr} (mTX : mg "NoText" = some (.ref CTX)) {CTM : Addr} (mTM : mg "TooMany" = some (.ref CTM)) {CZE : Addr} (mZE : mg "SplitError" = some (.ref CZE)) (iTM : ExcI K CTM) (xTM : PySem.W.exmOne K (.ref CTM) (.ref CZE) = some true) (oTM : PySem.W.kitOne K (.ref CTM) (.ref CTM) = some true) (oVE : PySem.W.kitOne K (.ref CTM) (.type "ValueError") = some true) (oCN : PySem.W.kitOne K (.ref CTM) (.ref CCN) = some false) (oRW : PySem.W.kitOne K (.ref CTM) (.ref CRW) = some false) (oST : PySem.W.kitOne K (.ref CTM) (.ref CST) = some false) (oTX : PySem.W.kitOne K (.ref CTM) (.ref CTX) = some false) (GCT : FnOk P w K mg base (CX1 P w) 135 fCT fdCT ["many", "rules"] (spCutTree K CTM)) (mCT : mg "cut_tree" = some (.ref fCT)) (kCT : PySem.W.keepIn K (.ref fCT) = true) (bCT : Binds K fdCT ["many", "rules"] []) (zisinstance : mg "isinstance" = none) (zVE : mg "ValueError" = none) : FnOk P w K mg base CX0 136 f fd ["_law_many", "_law_rules_here"] (spRefused K) := by
  refine F.ok scRefused (fun vs H Q E h => ?_) (fun cdv A outer s H vs Q E hr h => ?_)
  · obtain ⟨m, rl, rs, rfl, _⟩ := h
    rfl
  · obtain ⟨m, rl, rs, rfl, m7, hrl, hRs, lr, h60, q⟩ := h
    have nd := scRefused.nd
    have hrX : Room 135 _ := hr.mono (by decide)
    refine ⟨_, (pss_cons (ps_set (i := 2) nd rfl (Or.inl rfl) pe_non)
      (pss_cons (ps_tryAs (j := 2) (l := 3) (pt_expr GCT hrX (by rfl) mCT kCT bCT (fun _ => (pa_cons (pv 0) (pa_cons (pv 1) pa_nil)))) (by rfl) mZE rfl rfl rfl nd rfl rfl rfl (Or.inl rfl))
      (pss_cons (ps_if (pt_val (pe_callB (call_isET (K := K) rfl) (by rfl) zisinstance PyProof.Rows.boot_isinstance (pa_cons (pv 2) (pa_cons (pe_tup (pa_cons (pe_glob (v := .ref CCN) (by rfl) mCN rfl) (pa_cons (pe_glob (v := .ref CRW) (by rfl) mRW rfl) (pa_cons (pe_glob (v := .ref CST) (by rfl) mST rfl) (pa_cons (pe_glob (v := .ref CTX) (by rfl) mTX rfl) pa_nil))))) pa_nil)))) (pss_one (ps_ret pe_bl)) pss_nil)
      (pss_one (ps_ret (pe_and (pe_callB (call_isE (K := K) rfl) (by rfl) zisinstance PyProof.Rows.boot_isinstance (pa_cons (pv 2) (pa_cons (pe_glob (v := .ref CTM) (by rfl) mTM rfl) pa_nil))) (pe_one (pe_callB (call_isE (K := K) rfl) (by rfl) zisinstance PyProof.Rows.boot_isinstance (pa_cons (pv 2) (pa_cons (pe_bltn (v := .ty "ValueError") (by rfl) zVE PyProof.Rows.Boot.«ValueError» rfl) pa_nil)))))))))), ?_⟩
    refine ⟨_, rfl, _, rfl, m, rl, rs, rfl, m7, hrl, hRs, lr, fun _ H0 s0 => ⟨CTM, rfl, xTM, fun ea hea => ?_⟩, fun no => absurd no (by omega)⟩
    have s1 := s0.trans (Same.new (o := excO ea CTM) hea)
    have he1 : (upd H0 ea (excO ea CTM)) ea = some (excO ea CTM) := upd_same
    generalize upd H0 ea (excO ea CTM) = H1 at s1 he1
    refine ⟨_, rfl, (by show 4 ≤ sizeLine; decide), fun tp htp => ?_⟩
    have s2 := Same.new (o := .tup [V.ref CCN, V.ref CRW, V.ref CST, V.ref CTX]) htp
    have htp' : (upd H1 tp (.tup [V.ref CCN, V.ref CRW, V.ref CST, V.ref CTX])) tp = some (.tup [V.ref CCN, V.ref CRW, V.ref CST, V.ref CTX]) := upd_same
    have he2 := s2 _ _ he1
    generalize upd H1 tp (.tup [V.ref CCN, V.ref CRW, V.ref CST, V.ref CTX]) = H2 at s2 htp' he2
    refine ⟨ea, CTM, tp, _, false, rfl, he2, iTM, htp', fun us hu => ?_, _, rfl, iteF ?_⟩
    · cases hu with | cons h1 hu => cases hu with | cons h2 hu => cases hu with | cons h3 hu => cases hu with | cons h4 hu => cases hu with | nil =>
      cases h1; cases h2; cases h3; cases h4
      unfold PySem.W.kitAny; rw [oCN]; unfold PySem.W.kitAny; rw [oRW]; unfold PySem.W.kitAny; rw [oST]; unfold PySem.W.kitAny; rw [oTX]; rfl
    · refine ⟨_, rfl, ea, CTM, _, true, rfl, he2, iTM, (fun u hu => by cases hu; exact oTM), _, rfl, iteT ?_⟩
      exact ⟨_, rfl, ea, CTM, _, true, rfl, he2, iTM, (fun u hu => by cases hu; exact oVE), q _ (s1.trans s2)⟩
end
end Own

namespace Own
open PySem L2
section
variable {P : Program} {w : World} {K : PySem.W.Frag} {mg : Str → Option Value} {base : Heap}
seal PySem.wpAny
def spLaw (K : PySem.W.Frag) : Sp := fun vs H Q _ => ∃ (a : Addr) (ns : List Int), vs = [.ref a] ∧ SqF K H a ns ∧ ns.length ≤ 63 ∧ ∀ H', Q (.bl true) H'
abbrev sLaw : Stmt := top 40
theorem scLaw : FnScope ["_law_script", "_law_state", "_law_many", "_law_rules_here", "_law_table_here", "_law_handed", "_law_tree", "_law_due", "_law_found"] ["_law_script"] (defScope sLaw) := ⟨rfl, rfl, rfl, by decide +kernel, rfl, by decide +kernel, by decide +kernel⟩
abbrev outSc62 : Scope := { kind := .function, names := [(".0", .local), ("_law_k", .cell), ("len", .globalImplicit), ("_law_due", .cell)], isGenerator := false, isCoroutine := false }
theorem ok_law {f fTB fMP fRF fCT fRI fEN fLV fW CTM : Addr} {fd fdTB fdMP fdRF fdCT fdRI fdEN fdLV fdW : FuncData} (F : Fun K "law" "law" sLaw f fd) (GTB : FnOk P w K mg base CX0 4 fTB fdTB ["_law_state"] (spTable62 K)) (mTB : mg "_law_table" = some (.ref fTB)) (kTB : PySem.W.keepIn K (.ref fTB) = true) (bTB : Binds K fdTB ["_law_state"] []) (GMP : FnOk P w K mg base CX0 7 fMP fdMP ["_law_many", "_law_rules_here", "_law_table_here"] (spManyP K)) (mMP : mg "_law_many_parts" = some (.ref fMP)) (kMP : PySem.W.keepIn K (.ref fMP) = true) (bMP : Binds K fdMP ["_law_many", "_law_rules_here", "_law_table_here"] []) (GRF : FnOk P w K mg base CX0 136 fRF fdRF ["_law_many", "_law_rules_here"] (spRefused K)) (mRF : mg "_law_refused" = some (.ref fRF)) (kRF : PySem.W.keepIn K (.ref fRF) = true) (bRF : Binds K fdRF ["_law_many", "_law_rules_here"] []) (GCT : FnOk P w K mg base CX0 135 fCT fdCT ["many", "rules"] (fun vs H Q _ => spCutTree K CTM vs H Q fun _ _ _ => False)) (mCT : mg "cut_tree" = some (.ref fCT)) (kCT : PySem.W.keepIn K (.ref fCT) = true) (bCT : Binds K fdCT ["many", "rules"] []) (GRI : FnOk P w K mg base CX0 135 fRI fdRI ["_law_many", "_law_rules_here", "_law_tree", "_law_part", "_law_table_here"] (spRight62 K 128)) (mRI : mg "_law_right" = some (.ref fRI)) (kRI : PySem.W.keepIn K (.ref fRI) = true) (bRI : Binds K fdRI ["_law_many", "_law_rules_here", "_law_tree", "_law_part", "_law_table_here"] []) (GEN : FnOk P w K mg base CX0 1 fEN fdEN ["_law_tree"] spEnds62) (mEN : mg "_law_ends" = some (.ref fEN)) (kEN : PySem.W.keepIn K (.ref fEN) = true) (bEN : Binds K fdEN ["_law_tree"] []) (GLV : FnOk P w K mg base CX0 129 fLV fdLV ["tree"] (spLeaves 128)) (mLV : mg "leaves" = some (.ref fLV)) (kLV : PySem.W.keepIn K (.ref fLV) = true) (bLV : Binds K fdLV ["tree"] []) (GW : FnOk P w K mg base CX0 1 fW fdW ["_law_found"] spWholeI) (mW : mg "_law_whole" = some (.ref fW)) (kW : PySem.W.keepIn K (.ref fW) = true) (bW : Binds K fdW ["_law_found"] []) (zlist : mg "list" = none) (zisinstance : mg "isinstance" = none) (zlen : mg "len" = none) (zrange : mg "range" = none) : FnOk P w K mg base CX0 137 f fd ["_law_script"] (spLaw K) := by
  refine F.ok scLaw (fun vs H Q E h => ?_) (fun cdv A outer s H vs Q E hr h => ?_)
  · obtain ⟨a, ns, rfl, _⟩ := h
    rfl
  · obtain ⟨a, ns, rfl, hS, hlen, q⟩ := h
    have nd := scLaw.nd
    have hr1 : Room 1 _ := hr.mono (by decide)
    have hr4 : Room 4 _ := hr.mono (by decide)
    have hr7 : Room 7 _ := hr.mono (by decide)
    have hrL : Room 129 _ := hr.mono (by decide)
    have hrX : Room 135 _ := hr.mono (by decide)
    have hrR : Room 136 _ := hr.mono (by decide)
    refine ⟨_, (pss_cons (ps_set (i := 1) nd rfl (Or.inl rfl) (pe_lst (pa_cons (pv 0) (pa_cons pe_int pa_nil))))
      (pss_cons (ps_asg (pe_call GTB hr4 rfl mTB kTB bTB .nil pass0 (pa_cons (pv 1) pa_nil)) (pg_tup rfl (pgs_cons (pg_name (i := 2) nd rfl (Or.inl rfl)) (pgs_cons (pg_name (i := 3) nd rfl (Or.inl rfl)) pgs_nil))))
      (pss_cons (ps_set (i := 4) nd rfl (Or.inl rfl) pe_dnewK)
      (pss_cons (ps_set (i := 5) nd rfl (Or.inl rfl) (pe_callTy (call_listK (K := K) rfl) (by rfl) zlist PyProof.Rows.boot_list (pa_cons (pv 3) pa_nil)))
      (pss_cons (ps_if (pt_cmpR op_gtN (pe_call GMP hr7 rfl mMP kMP bMP .nil pass0 (pa_cons (pv 2) (pa_cons (pv 3) (pa_cons (pv 4) pa_nil)))) pe_int (nomark _)) (pss_one (ps_ret (pe_and (pe_call GRF hrR rfl mRF kRF bRF .nil pass0 (pa_cons (pv 2) (pa_cons (pv 5) pa_nil))) (pe_one (pe_cmpR (op_eqD (K := K) rfl hr.units) (pv 5) (pv 3) (nomark _)))))) pss_nil)
      (pss_cons (ps_set (i := 6) nd rfl (Or.inl rfl) (pe_call GCT hrX rfl mCT kCT bCT .nil pass0 (pa_cons (pv 2) (pa_cons (pv 5) pa_nil))))
      (pss_cons (ps_if (PW.pt (pw_or (pt_cmpR (op_neD (K := K) rfl hr.units) (pv 5) (pv 3) (nomark _)) (pw_or1 (pt_not (pt_val (pe_call GRI hrX rfl mRI kRI bRI .nil pass0 (pa_cons (pv 2) (pa_cons (pv 3) (pa_cons (pv 6) (pa_cons (pe_op op_subN (pe_op op_shl1 pe_int (pv 2)) pe_int) (pa_cons (pv 4) pa_nil))))))))))) (pss_one (ps_ret pe_bl)) pss_nil)
      (pss_cons (ps_set (i := 7) nd rfl (Or.inr rfl) (pe_call GEN hr1 rfl mEN kEN bEN .nil pass0 (pa_cons (pv 6) pa_nil)))
      (pss_cons (ps_set (i := 8) nd rfl (Or.inl rfl) (pe_call GLV hrL rfl mLV kLV bLV .nil pass0 (pa_cons (pv 6) pa_nil)))
      (pss_cons (ps_if (PW.pt (pw_or (pt_not (pt_val (pe_callB (call_isK (K := K) rfl) (by rfl) zisinstance PyProof.Rows.boot_isinstance (pa_cons (pv 8) (pa_cons (pe_bltn (v := .ty "list") rfl zlist PyProof.Rows.boot_list rfl) pa_nil))))) (pw_or (pt_cmpR (op_neLK (K := K) rfl hr.units) (pv 8) (pv 7) (nomark _)) (pw_or1 (pt_cmpR op_gtN (pe_callB (call_lenK (K := K) rfl) (by rfl) zlen PySem.boot_len (pa_cons (pe_comp (xs := ["_law_one"]) (cs ["_law_script", "_law_state", "_law_many", "_law_rules_here", "_law_table_here", "_law_handed", "_law_tree", "_law_due", "_law_found"] (defScope sLaw) rfl rfl (by decide +kernel)) rfl (pi_listK (K := K) rfl (pv 8)) (fun _ _ _ => pg_name (i := 0) (show (["_law_one", "_law_script", "_law_state", "_law_many", "_law_rules_here", "_law_table_here", "_law_handed", "_law_tree", "_law_due", "_law_found"] : List Str).Nodup by decide +kernel) rfl (Or.inl rfl)) (fun _ _ _ => (pts_one (pt_not (pt_val (pe_call GW hr1 rfl mW kW bW .nil pass0 (pa_cons (pv 0) pa_nil)))))) (fun _ _ _ => (pv 0))) pa_nil)) pe_int (nomark _)))))) (pss_one (ps_ret pe_bl)) pss_nil)
      (pss_cons (ps_if (pt_cmpR op_gtN (pe_callB (call_lenK (K := K) rfl) (by rfl) zlen PySem.boot_len (pa_cons (pe_comp1 (x0 := "_law_k") (cs1 ["_law_script", "_law_state", "_law_many", "_law_rules_here", "_law_table_here", "_law_handed", "_law_tree", "_law_due", "_law_found"] (defScope sLaw) rfl rfl (by decide +kernel) (fun _ _ => rfl) (fun _ => rfl)) rfl (pi_range1 rfl zrange (pa_cons (pv 2) pa_nil)) (fun _ _ _ => pg_name (i := 0) (show (["_law_k", "_law_script", "_law_state", "_law_many", "_law_rules_here", "_law_table_here", "_law_handed", "_law_tree", "_law_due", "_law_found"] : List Str).Nodup by decide +kernel) rfl (Or.inr rfl)) (fun _ _ _ => (pts_one (pt_cmpR op_eqN (pe_callB (call_lenK (K := K) rfl) (by rfl) zlen PySem.boot_len (pa_cons (pe_comp (xs := ["_law_one"]) (cs ["_law_k", "_law_script", "_law_state", "_law_many", "_law_rules_here", "_law_table_here", "_law_handed", "_law_tree", "_law_due", "_law_found"] outSc62 rfl rfl (by decide +kernel)) rfl (pi_listK (K := K) rfl (pv 8)) (fun _ _ _ => pg_name (i := 0) (show (["_law_one", "_law_k", "_law_script", "_law_state", "_law_many", "_law_rules_here", "_law_table_here", "_law_handed", "_law_tree", "_law_due", "_law_found"] : List Str).Nodup by decide +kernel) rfl (Or.inl rfl)) (fun _ _ _ => (pts_one (pt_cmpR op_eqN (pe_op op_modN' (pe_op op_fdivN' (pv 0) (pe_op op_shl1 pe_int (pv 1))) pe_int) pe_int (nomark _)))) (fun _ _ _ => (pv 0))) pa_nil)) pe_int (nomark _)))) (fun _ _ _ => (pv 0))) pa_nil)) pe_int (nomark _)) (pss_one (ps_ret pe_bl)) pss_nil)
      (pss_cons (ps_expr (pe_bm PySem.F.plainAttrs_list PySem.F.slot_list_append PySem.F.type_list_append mt_append (pv 8) (pa_cons pe_int pa_nil)))
      (pss_one (ps_ret (pe_cmpR (op_eqLK (K := K) rfl hr.units) (pe_call GLV hrL rfl mLV kLV bLV .nil pass0 (pa_cons (pv 6) pa_nil)) (pv 7) (nomark _)))))))))))))))), ?_⟩
    refine ⟨_, rfl, (by show 2 ≤ sizeLine; decide), fun st hst => ?_⟩
    have S0 := STF.start hS hst
    refine ⟨_, rfl, st, ns, 0, rfl, S0, by omega, hlen, fun t rp m rs k1 H1 m1 m7 lrs hRs ht hrp hrp0 => ?_⟩
    refine ⟨t, _, rfl, SqT.of ht, rfl, _, _, rfl, _, _, rfl, rfl, ?_⟩
    have pw0 : 0 < 2 ^ m := Nat.two_pow_pos m
    have p7 := pow7 m7
    intro d hd0
    have sd := Same.new (o := .dK []) hd0
    have hd1 : (upd H1 d (.dK [])) d = some (.dK []) := upd_same
    have hrp1 := sd _ _ hrp
    have hRs1 := hRs.same sd
    generalize upd H1 d (.dK []) = H2 at hd1 hrp1 hRs1
    refine ⟨_, rfl, rp, _, rfl, .inl (SqL.of hrp1), fun hp hhp0 => ?_⟩
    have sh := Same.new (o := .lst (rs.map fun (r : Rl) => V.ref r.r)) hhp0
    have hhp : (upd H2 hp (.lst (rs.map fun (r : Rl) => V.ref r.r))) hp = some (.lst (rs.map fun (r : Rl) => V.ref r.r)) := upd_same
    have hd2 := sh _ _ hd1
    have hrp2 := sh _ _ hrp1
    have hRs2 := hRs1.same sh
    generalize upd H2 hp (.lst (rs.map fun (r : Rl) => V.ref r.r)) = H3 at hhp hd2 hrp2 hRs2
    refine ⟨_, rfl, _, rfl, _, rfl, m, rp, d, rs, [], rfl, m7, hrp2, hRs2, by omega, hd2, Nat.zero_le _, TabOk.nil _ _ _, fun c H4 kv4 b4 hd4 lk4 hT4 hc => ?_⟩
    have hrp4 := but_lst b4 hd2 hrp2
    have hhp4 := but_lst b4 hd2 hhp
    have hRs4 := hRs2.butD b4 hd2
    have lk4' : kv4.length ≤ 61 := by have : ([] : List (Key × V)).length = 0 := rfl; omega
    have dv : ∀ {HX : Hp} (u : Addr), HX u = some (.lst (rs.map fun (r : Rl) => V.ref r.r)) → RulesAt HX m rs → DV K HX (.ref u) (.list ((rs.map Rl.d).map dR)) := fun u hu hr' => DV.lst (SqL.of hu) (rules_dv hr')
    refine ⟨c, 60, rfl, rfl, _, rfl, ite2 (fun hb => ?_) (fun hb => ?_)⟩
    · have big := hc.mp (of_decide_eq_true hb)
      refine ⟨_, rfl, _, rfl, m, hp, rs, rfl, m7, SqL.of hhp4, hRs4, by omega, big, fun H5 s5 => ?_⟩
      refine ⟨_, rfl, iteT ?_⟩
      refine ⟨_, rfl, _, rfl, .list ((rs.map Rl.d).map dR), .list ((rs.map Rl.d).map dR), dv hp (s5 _ _ hhp4) (hRs4.same s5), dv rp (s5 _ _ hrp4) (hRs4.same s5), shaped_map canLay_dR depth_dR _, shaped_map canLay_dR depth_dR _, noMix_list noMix_dR _ _, ?_⟩
      rw [if_neg Bool.false_ne_true, same_list same_dR, decide_eq_true rfl]
      exact q _
    have c60 : (trP m (rs.map Rl.d) (2 ^ m - 1)).cnt ≤ 60 := Nat.le_of_not_lt fun z => hb (decide_eq_true (hc.mpr z))
    refine ⟨_, rfl, _, rfl, m, hp, rs, rfl, m7, SqL.of hhp4, hRs4, by omega, fun z => absurd z (by omega), fun _ tv H5 s5 hT5 => ?_⟩
    have hd5 := s5 _ _ hd4
    have hrp5 := s5 _ _ hrp4
    have hRs5 := hRs4.same s5
    refine ⟨_, rfl, _, rfl, .list ((rs.map Rl.d).map dR), .list ((rs.map Rl.d).map dR), dv hp (s5 _ _ hhp4) hRs5, dv rp hrp5 hRs5, shaped_map canLay_dR depth_dR _, shaped_map canLay_dR depth_dR _, noMix_list noMix_dR _ _, _, rfl, ?_⟩
    rw [if_pos rfl, same_list same_dR, decide_eq_true rfl]
    refine iteF ?_
    refine ⟨_, rfl, _, rfl, _, rfl, _, rfl, m, rfl, rfl, by omega, 2 ^ m, 1, rfl, rfl, pw0, _, rfl, m, 2 ^ m - 1, tv, rp, d, rs, kv4, rfl, m7, by omega, by omega, hrp5, hRs5, by omega, hd5, by omega, hT4.same s5, hT5, fun H6 kv6 b6 hd6 lk6 hT6 => ?_⟩
    refine ⟨_, rfl, iteF ?_⟩
    have hT6' := hT5.but b6 hd5
    have dp := tr_dep (m := m) (rs := rs.map Rl.d) _ (2 ^ m - 1) (Nat.le_refl _) (by omega)
    have lcol : ∀ k, k < m → ∃ q ∈ (trP m (rs.map Rl.d) (2 ^ m - 1)).lvs, HasB q k := fun k hk => tr_col _ _ (Nat.le_refl _) (by omega) ((hasb_all k).mpr hk)
    have ll := (trP m (rs.map Rl.d) (2 ^ m - 1)).lvs_le
    generalize trP m (rs.map Rl.d) (2 ^ m - 1) = T at c60 hT6' dp lcol ll
    refine ⟨_, rfl, tv, T, rfl, hT6', c60, fun dl H7 s7 hdl0 hdl => ?_⟩
    refine ⟨_, rfl, tv, T, rfl, hT6'.same s7, by omega, c60, fun fl H8 s8 hfl0 hfl => ?_⟩
    have hdl8 := s8 _ _ hdl
    have nfd : dl ≠ fl := ne_of_none hdl hfl0
    have mi := map_int T.lvs
    refine ⟨_, rfl, _, _, _, true, rfl, .lst hfl, rfl, _, rfl, iteF ?_⟩
    refine ⟨_, rfl, _, rfl, fl, dl, T.lvs.map fun (k : Nat) => (k : Int), T.lvs.map fun (k : Nat) => (k : Int), rfl, rfl, (by rw [mi]; exact SqL.of hfl), (by rw [mi]; exact SqL.of hdl8), _, rfl, ?_⟩
    refine ite2 (fun hc => absurd hc (by simp)) (fun _ => ?_)
    refine ⟨_, rfl, fl, rfl, ⟨_, SqL.of hfl⟩, lc_list (K := K) (xs := T.lvs.map vN) (fun k acc H' => H' = H8 ∧ acc = []) (by rw [List.length_map]; omega) ⟨rfl, rfl⟩ (fun k acc H' hk h => ?_) (fun k u acc H' hu h => ?_) (fun acc H' h => ?_)⟩
    · obtain ⟨rfl, rfl⟩ := h
      exact ⟨SqL.of hfl, Nat.zero_le _⟩
    · obtain ⟨rfl, rfl⟩ := h
      rw [List.getElem?_map] at hu
      cases ex : T.lvs[k]? with
      | none => rw [ex] at hu; cases hu
      | some x =>
        rw [ex] at hu
        obtain rfl := (Option.some.inj hu).symm
        exact ⟨rfl, _, rfl, _, rfl, _, rfl, iteF ⟨rfl, rfl⟩⟩
    obtain ⟨rfl, rfl⟩ := h
    intro e1 he1
    have sE := Same.new (o := .lst []) he1
    have he1' : (upd H' e1 (.lst [])) e1 = some (.lst []) := upd_same
    have hfl9 := sE _ _ hfl
    have hdl9 := sE _ _ hdl8
    have hT9 := ((hT6'.same s7).same s8).same sE
    generalize upd H' e1 (.lst []) = H9 at he1' hfl9 hdl9 hT9
    refine ⟨e1, [], rfl, .inl (SqL.of he1'), 0, 0, rfl, rfl, _, rfl, iteF ?_⟩
    -- every column is in a part
    refine ⟨_, rfl, (m : Int), rfl, by omega, by omega, lc_rangeN (k := m) (fun i acc H' => Same H9 H' ∧ acc = []) (by omega) ⟨Same.refl _, rfl⟩ (fun i acc H' hi h => ?_) (fun i acc H' hi h => ?_) (fun acc H' h => ?_)⟩
    · obtain ⟨_, rfl⟩ := h
      exact Nat.zero_le _
    · obtain ⟨sI, rfl⟩ := h
      have hdlI := sI _ _ hdl9
      have hp2 : 0 < 2 ^ i := Nat.two_pow_pos i
      have hp3 : 2 ^ i ≤ 2 ^ 7 := Nat.pow_le_pow_right (by decide) (by omega)
      refine ⟨rfl, _, rfl, dl, rfl, ⟨_, SqL.of hdlI⟩, lc_list (K := K) (xs := T.lvs.map vN) (fun k acc2 H2 => H2 = H' ∧ acc2 = ((T.lvs.take k).filter fun x => decide (x / 2 ^ i % 2 = 1)).map vN) (by rw [List.length_map]; omega) ⟨rfl, rfl⟩ (fun k acc2 H2 hk h2 => ?_) (fun k u acc2 H2 hu h2 => ?_) (fun acc2 H2 h2 => ?_)⟩
      · obtain ⟨rfl, rfl⟩ := h2
        exact ⟨SqL.of hdlI, by rw [List.length_map]; exact Nat.le_trans (List.length_filter_le _ _) (List.length_take_le _ _)⟩
      · obtain ⟨rfl, rfl⟩ := h2
        rw [List.getElem?_map] at hu
        cases ex : T.lvs[k]? with
        | none => rw [ex] at hu; cases hu
        | some x =>
          rw [ex] at hu
          obtain rfl := (Option.some.inj hu).symm
          have et : (T.lvs.take (k + 1)).filter (fun x => decide (x / 2 ^ i % 2 = 1)) = (T.lvs.take k).filter (fun x => decide (x / 2 ^ i % 2 = 1)) ++ [x].filter (fun x => decide (x / 2 ^ i % 2 = 1)) := by rw [List.take_succ, ex, ← List.filter_append]; rfl
          refine ⟨rfl, _, rfl, _, rfl, i, rfl, rfl, by omega, x, 2 ^ i, rfl, rfl, ⟨hp2, by omega⟩, x / 2 ^ i, 2, rfl, rfl, (by show (0 : Nat) < 2; decide), x / 2 ^ i % 2, 1, rfl, rfl, _, rfl, ite2 (fun hb => ?_) (fun hb => ?_)⟩
          · refine ⟨_, rfl, rfl, ?_⟩
            rw [et, List.filter_cons_of_pos (p := fun x => decide (x / 2 ^ i % 2 = 1)) hb, List.filter_nil, List.map_append]; rfl
          · refine ⟨rfl, ?_⟩
            rw [et, List.filter_cons_of_neg (p := fun x => decide (x / 2 ^ i % 2 = 1)) hb, List.filter_nil, List.append_nil]
      obtain ⟨rfl, rfl⟩ := h2
      rw [List.length_map, List.take_length]
      intro e2 he2
      have some1 : (T.lvs.filter fun x => decide (x / 2 ^ i % 2 = 1)).length ≠ 0 := fun z => by
        obtain ⟨y, hy, hb⟩ := lcol i hi
        have : y ∈ T.lvs.filter fun x => decide (x / 2 ^ i % 2 = 1) := List.mem_filter.mpr ⟨hy, decide_eq_true (by
          have : y.testBit i = true := hb
          rw [Nat.testBit_eq_decide_div_mod_eq] at this
          exact of_decide_eq_true this)⟩
        rw [List.length_eq_zero_iff.mp z] at this
        exact absurd this List.not_mem_nil
      refine ⟨e2, _, rfl, .inl (SqL.of upd_same), ((T.lvs.filter fun x => decide (x / 2 ^ i % 2 = 1)).map vN).length, 0, rfl, rfl, _, rfl, ?_⟩
      rw [List.length_map, decide_eq_false some1]
      exact iteF ⟨sI.trans (Same.new he2), rfl⟩
    obtain ⟨sI, rfl⟩ := h
    intro e3 he3
    have s10 := sI.trans (Same.new (o := .lst []) he3)
    have he3' : (upd H' e3 (.lst [])) e3 = some (.lst []) := upd_same
    have hflA := s10 _ _ hfl9
    have hdlA := s10 _ _ hdl9
    have hTA := hT9.same s10
    generalize upd H' e3 (.lst []) = HA at he3' hflA hdlA hTA
    refine ⟨e3, [], rfl, .inl (SqL.of he3'), 0, 0, rfl, rfl, _, rfl, iteF ?_⟩
    refine ⟨_, rfl, .inl ⟨rfl, _, SqL.of hflA⟩, fl, _, _, rfl, rfl, hflA, small1000 (by rw [List.length_map]; omega), ?_⟩
    have hdlB : (upd HA fl (.lst (T.lvs.map vN ++ [V.int 0]))) dl = some (.lst (T.lvs.map vN)) := by rw [upd_ne nfd]; exact hdlA
    have hTB := hTA.put (o := .lst (T.lvs.map vN ++ [V.int 0])) hflA
    generalize upd HA fl (.lst (T.lvs.map vN ++ [V.int 0])) = HB at hdlB hTB
    refine ⟨_, rfl, tv, T, rfl, hTB, by omega, c60, fun fl2 HC sC _ hfl2 => ?_⟩
    refine ⟨_, rfl, fl2, dl, T.lvs.map fun (k : Nat) => (k : Int), T.lvs.map fun (k : Nat) => (k : Int), rfl, rfl, (by rw [mi]; exact SqL.of hfl2), (by rw [mi]; exact SqL.of (sC _ _ hdlB)), ?_⟩
    rw [if_neg Bool.false_ne_true, decide_eq_true rfl]
    exact q _
end
end Own

namespace Own
open PySem L2
/-! what the top has written, and the law's own head -/
theorem all_mk {l : PySem.W.OpenLaw} {w : World} {K : PySem.W.Frag} {h : Heap} {mg : Str → Option Value} {fa fH fC fAL fIW fMO fCU fI fUD fBG fFU fUN fTA fTW fTR fCO fCT fLV fT fS fRU fTB fPA fMP fW fRI fEN fRF fQ : Addr} (X : K.In h) (G : h.Ns mainGlobals mg) (hfa : mg "law" = some (.ref fa))
    {odH anH odC anC odAL anAL odIW anIW odMO anMO odCU anCU odI anI odUD anUD odBG anBG odFU anFU odUN anUN odTA anTA odTW anTW odTR anTR odCO anCO odCT anCT odLV anLV odT anT odS anS odRU anRU odTB anTB odPA anPA odMP anMP odW anW odRI anRI odEN anEN odRF anRF odQ anQ : Option Addr} {slH slC slAL slIW slMO slCU slI slUD slBG slFU slUN slTA slTW slTR slCO slCT slLV slT slS slRU slTB slPA slMP slW slRI slEN slRF slQ : Array (Option Value)} {ocH kVH dcH pmH cdH ctH ocC kVC dcC pmC cdC ctC ocAL kVAL dcAL pmAL cdAL ctAL ocIW kVIW dcIW pmIW cdIW ctIW ocMO kVMO dcMO pmMO cdMO ctMO ocCU kVCU dcCU pmCU cdCU ctCU ocI kVI dcI pmI cdI ctI ocUD kVUD dcUD pmUD cdUD ctUD ocBG kVBG dcBG pmBG cdBG ctBG ocFU kVFU dcFU pmFU cdFU ctFU ocUN kVUN dcUN pmUN cdUN ctUN ocTA kVTA dcTA pmTA cdTA ctTA ocTW kVTW dcTW pmTW cdTW ctTW ocTR kVTR dcTR pmTR cdTR ctTR ocCO kVCO dcCO pmCO cdCO ctCO ocCT kVCT dcCT pmCT cdCT ctCT ocLV kVLV dcLV pmLV cdLV ctLV ocT kVT dcT pmT cdT ctT ocS kVS dcS pmS cdS ctS ocRU kVRU dcRU pmRU cdRU ctRU ocTB kVTB dcTB pmTB cdTB ctTB ocPA kVPA dcPA pmPA cdPA ctPA ocMP kVMP dcMP pmMP cdMP ctMP ocW kVW dcW pmW cdW ctW ocRI kVRI dcRI pmRI cdRI ctRI ocEN kVEN dcEN pmEN cdEN ctEN ocRF kVRF dcRF pmRF cdRF ctRF ocQ kVQ dcQ pmQ cdQ ctQ : Value}
    (aH : PySem.W.nsIn K mainGlobals "has_column" = some (some (.ref fH))) (lH : K.lookup fH = some ⟨ocH, odH, .func (PySem.W.fnOf "has_column" "has_column" (defArgs sHas) (defBody sHas) (defScope sHas) .none kVH dcH pmH anH cdH ctH), slH⟩) (cH : PySem.W.codeIn K cdH "has_column" = true) (kH : PySem.W.keepIn K (.ref fH) = true)
    (aC : PySem.W.nsIn K mainGlobals "columns_of" = some (some (.ref fC))) (lC : K.lookup fC = some ⟨ocC, odC, .func (PySem.W.fnOf "columns_of" "columns_of" (defArgs sCols) (defBody sCols) (defScope sCols) .none kVC dcC pmC anC cdC ctC), slC⟩) (cC : PySem.W.codeIn K cdC "columns_of" = true) (kC : PySem.W.keepIn K (.ref fC) = true)
    (aAL : PySem.W.nsIn K mainGlobals "all_of" = some (some (.ref fAL))) (lAL : K.lookup fAL = some ⟨ocAL, odAL, .func (PySem.W.fnOf "all_of" "all_of" (defArgs sAll) (defBody sAll) (defScope sAll) .none kVAL dcAL pmAL anAL cdAL ctAL), slAL⟩) (cAL : PySem.W.codeIn K cdAL "all_of" = true) (kAL : PySem.W.keepIn K (.ref fAL) = true)
    (aIW : PySem.W.nsIn K mainGlobals "is_within" = some (some (.ref fIW))) (lIW : K.lookup fIW = some ⟨ocIW, odIW, .func (PySem.W.fnOf "is_within" "is_within" (defArgs sWithin) (defBody sWithin) (defScope sWithin) .none kVIW dcIW pmIW anIW cdIW ctIW), slIW⟩) (cIW : PySem.W.codeIn K cdIW "is_within" = true) (kIW : PySem.W.keepIn K (.ref fIW) = true)
    (aMO : PySem.W.nsIn K mainGlobals "with_one_more" = some (some (.ref fMO))) (lMO : K.lookup fMO = some ⟨ocMO, odMO, .func (PySem.W.fnOf "with_one_more" "with_one_more" (defArgs sMore) (defBody sMore) (defScope sMore) .none kVMO dcMO pmMO anMO cdMO ctMO), slMO⟩) (cMO : PySem.W.codeIn K cdMO "with_one_more" = true) (kMO : PySem.W.keepIn K (.ref fMO) = true)
    (aCU : PySem.W.nsIn K mainGlobals "can_use" = some (some (.ref fCU))) (lCU : K.lookup fCU = some ⟨ocCU, odCU, .func (PySem.W.fnOf "can_use" "can_use" (defArgs sCanUse) (defBody sCanUse) (defScope sCanUse) .none kVCU dcCU pmCU anCU cdCU ctCU), slCU⟩) (cCU : PySem.W.codeIn K cdCU "can_use" = true) (kCU : PySem.W.keepIn K (.ref fCU) = true)
    (aI : PySem.W.nsIn K mainGlobals "listed" = some (some (.ref fI))) (lI : K.lookup fI = some ⟨ocI, odI, .func (PySem.W.fnOf "listed" "listed" (defArgs sListed) (defBody sListed) (defScope sListed) .none kVI dcI pmI anI cdI ctI), slI⟩) (cI : PySem.W.codeIn K cdI "listed" = true) (kI : PySem.W.keepIn K (.ref fI) = true)
    (aUD : PySem.W.nsIn K mainGlobals "used" = some (some (.ref fUD))) (lUD : K.lookup fUD = some ⟨ocUD, odUD, .func (PySem.W.fnOf "used" "used" (defArgs sUsed) (defBody sUsed) (defScope sUsed) .none kVUD dcUD pmUD anUD cdUD ctUD), slUD⟩) (cUD : PySem.W.codeIn K cdUD "used" = true) (kUD : PySem.W.keepIn K (.ref fUD) = true)
    (aBG : PySem.W.nsIn K mainGlobals "begun" = some (some (.ref fBG))) (lBG : K.lookup fBG = some ⟨ocBG, odBG, .func (PySem.W.fnOf "begun" "begun" (defArgs sBegun) (defBody sBegun) (defScope sBegun) .none kVBG dcBG pmBG anBG cdBG ctBG), slBG⟩) (cBG : PySem.W.codeIn K cdBG "begun" = true) (kBG : PySem.W.keepIn K (.ref fBG) = true)
    (aFU : PySem.W.nsIn K mainGlobals "first_use" = some (some (.ref fFU))) (lFU : K.lookup fFU = some ⟨ocFU, odFU, .func (PySem.W.fnOf "first_use" "first_use" (defArgs sFirst) (defBody sFirst) (defScope sFirst) .none kVFU dcFU pmFU anFU cdFU ctFU), slFU⟩) (cFU : PySem.W.codeIn K cdFU "first_use" = true) (kFU : PySem.W.keepIn K (.ref fFU) = true)
    (aUN : PySem.W.nsIn K mainGlobals "unfolded" = some (some (.ref fUN))) (lUN : K.lookup fUN = some ⟨ocUN, odUN, .func (PySem.W.fnOf "unfolded" "unfolded" (defArgs sUnf) (defBody sUnf) (defScope sUnf) .none kVUN dcUN pmUN anUN cdUN ctUN), slUN⟩) (cUN : PySem.W.codeIn K cdUN "unfolded" = true) (kUN : PySem.W.keepIn K (.ref fUN) = true)
    (aTA : PySem.W.nsIn K mainGlobals "told_again" = some (some (.ref fTA))) (lTA : K.lookup fTA = some ⟨ocTA, odTA, .func (PySem.W.fnOf "told_again" "told_again" (defArgs sAgain) (defBody sAgain) (defScope sAgain) .none kVTA dcTA pmTA anTA cdTA ctTA), slTA⟩) (cTA : PySem.W.codeIn K cdTA "told_again" = true) (kTA : PySem.W.keepIn K (.ref fTA) = true)
    (aTW : PySem.W.nsIn K mainGlobals "twice" = some (some (.ref fTW))) (lTW : K.lookup fTW = some ⟨ocTW, odTW, .func (PySem.W.fnOf "twice" "twice" (defArgs sTwice) (defBody sTwice) (defScope sTwice) .none kVTW dcTW pmTW anTW cdTW ctTW), slTW⟩) (cTW : PySem.W.codeIn K cdTW "twice" = true) (kTW : PySem.W.keepIn K (.ref fTW) = true)
    (aTR : PySem.W.nsIn K mainGlobals "tree_of" = some (some (.ref fTR))) (lTR : K.lookup fTR = some ⟨ocTR, odTR, .func (PySem.W.fnOf "tree_of" "tree_of" (defArgs sTree) (defBody sTree) (defScope sTree) .none kVTR dcTR pmTR anTR cdTR ctTR), slTR⟩) (cTR : PySem.W.codeIn K cdTR "tree_of" = true) (kTR : PySem.W.keepIn K (.ref fTR) = true)
    (aCO : PySem.W.nsIn K mainGlobals "count_parts" = some (some (.ref fCO))) (lCO : K.lookup fCO = some ⟨ocCO, odCO, .func (PySem.W.fnOf "count_parts" "count_parts" (defArgs sCount) (defBody sCount) (defScope sCount) .none kVCO dcCO pmCO anCO cdCO ctCO), slCO⟩) (cCO : PySem.W.codeIn K cdCO "count_parts" = true) (kCO : PySem.W.keepIn K (.ref fCO) = true)
    (aCT : PySem.W.nsIn K mainGlobals "cut_tree" = some (some (.ref fCT))) (lCT : K.lookup fCT = some ⟨ocCT, odCT, .func (PySem.W.fnOf "cut_tree" "cut_tree" (defArgs sCutTree) (defBody sCutTree) (defScope sCutTree) .none kVCT dcCT pmCT anCT cdCT ctCT), slCT⟩) (cCT : PySem.W.codeIn K cdCT "cut_tree" = true) (kCT : PySem.W.keepIn K (.ref fCT) = true)
    (aLV : PySem.W.nsIn K mainGlobals "leaves" = some (some (.ref fLV))) (lLV : K.lookup fLV = some ⟨ocLV, odLV, .func (PySem.W.fnOf "leaves" "leaves" (defArgs sLeaves) (defBody sLeaves) (defScope sLeaves) .none kVLV dcLV pmLV anLV cdLV ctLV), slLV⟩) (cLV : PySem.W.codeIn K cdLV "leaves" = true) (kLV : PySem.W.keepIn K (.ref fLV) = true)
    (aT : PySem.W.nsIn K mainGlobals "_law_take" = some (some (.ref fT))) (lT : K.lookup fT = some ⟨ocT, odT, .func (PySem.W.fnOf "_law_take" "_law_take" (defArgs sTake) (defBody sTake) (defScope sTake) .none kVT dcT pmT anT cdT ctT), slT⟩) (cT : PySem.W.codeIn K cdT "_law_take" = true) (kT : PySem.W.keepIn K (.ref fT) = true)
    (aS : PySem.W.nsIn K mainGlobals "_law_set" = some (some (.ref fS))) (lS : K.lookup fS = some ⟨ocS, odS, .func (PySem.W.fnOf "_law_set" "_law_set" (defArgs sSet) (defBody sSet) (defScope sSet) .none kVS dcS pmS anS cdS ctS), slS⟩) (cS : PySem.W.codeIn K cdS "_law_set" = true) (kS : PySem.W.keepIn K (.ref fS) = true)
    (aRU : PySem.W.nsIn K mainGlobals "_law_rules" = some (some (.ref fRU))) (lRU : K.lookup fRU = some ⟨ocRU, odRU, .func (PySem.W.fnOf "_law_rules" "_law_rules" (defArgs sRules) (defBody sRules) (defScope sRules) .none kVRU dcRU pmRU anRU cdRU ctRU), slRU⟩) (cRU : PySem.W.codeIn K cdRU "_law_rules" = true) (kRU : PySem.W.keepIn K (.ref fRU) = true)
    (aTB : PySem.W.nsIn K mainGlobals "_law_table" = some (some (.ref fTB))) (lTB : K.lookup fTB = some ⟨ocTB, odTB, .func (PySem.W.fnOf "_law_table" "_law_table" (defArgs sTable) (defBody sTable) (defScope sTable) .none kVTB dcTB pmTB anTB cdTB ctTB), slTB⟩) (cTB : PySem.W.codeIn K cdTB "_law_table" = true) (kTB : PySem.W.keepIn K (.ref fTB) = true)
    (aPA : PySem.W.nsIn K mainGlobals "_law_pair" = some (some (.ref fPA))) (lPA : K.lookup fPA = some ⟨ocPA, odPA, .func (PySem.W.fnOf "_law_pair" "_law_pair" (defArgs sPair) (defBody sPair) (defScope sPair) .none kVPA dcPA pmPA anPA cdPA ctPA), slPA⟩) (cPA : PySem.W.codeIn K cdPA "_law_pair" = true) (kPA : PySem.W.keepIn K (.ref fPA) = true)
    (aMP : PySem.W.nsIn K mainGlobals "_law_many_parts" = some (some (.ref fMP))) (lMP : K.lookup fMP = some ⟨ocMP, odMP, .func (PySem.W.fnOf "_law_many_parts" "_law_many_parts" (defArgs sManyP) (defBody sManyP) (defScope sManyP) .none kVMP dcMP pmMP anMP cdMP ctMP), slMP⟩) (cMP : PySem.W.codeIn K cdMP "_law_many_parts" = true) (kMP : PySem.W.keepIn K (.ref fMP) = true)
    (aW : PySem.W.nsIn K mainGlobals "_law_whole" = some (some (.ref fW))) (lW : K.lookup fW = some ⟨ocW, odW, .func (PySem.W.fnOf "_law_whole" "_law_whole" (defArgs sWhole) (defBody sWhole) (defScope sWhole) .none kVW dcW pmW anW cdW ctW), slW⟩) (cW : PySem.W.codeIn K cdW "_law_whole" = true) (kW : PySem.W.keepIn K (.ref fW) = true)
    (aRI : PySem.W.nsIn K mainGlobals "_law_right" = some (some (.ref fRI))) (lRI : K.lookup fRI = some ⟨ocRI, odRI, .func (PySem.W.fnOf "_law_right" "_law_right" (defArgs sRight) (defBody sRight) (defScope sRight) .none kVRI dcRI pmRI anRI cdRI ctRI), slRI⟩) (cRI : PySem.W.codeIn K cdRI "_law_right" = true) (kRI : PySem.W.keepIn K (.ref fRI) = true)
    (aEN : PySem.W.nsIn K mainGlobals "_law_ends" = some (some (.ref fEN))) (lEN : K.lookup fEN = some ⟨ocEN, odEN, .func (PySem.W.fnOf "_law_ends" "_law_ends" (defArgs sEnds) (defBody sEnds) (defScope sEnds) .none kVEN dcEN pmEN anEN cdEN ctEN), slEN⟩) (cEN : PySem.W.codeIn K cdEN "_law_ends" = true) (kEN : PySem.W.keepIn K (.ref fEN) = true)
    (aRF : PySem.W.nsIn K mainGlobals "_law_refused" = some (some (.ref fRF))) (lRF : K.lookup fRF = some ⟨ocRF, odRF, .func (PySem.W.fnOf "_law_refused" "_law_refused" (defArgs sRefused) (defBody sRefused) (defScope sRefused) .none kVRF dcRF pmRF anRF cdRF ctRF), slRF⟩) (cRF : PySem.W.codeIn K cdRF "_law_refused" = true) (kRF : PySem.W.keepIn K (.ref fRF) = true)
    (aQ : PySem.W.nsIn K mainGlobals "law" = some (some (.ref fQ))) (lQ : K.lookup fQ = some ⟨ocQ, odQ, .func (PySem.W.fnOf "law" "law" (defArgs sLaw) (defBody sLaw) (defScope sLaw) .none kVQ dcQ pmQ anQ cdQ ctQ), slQ⟩) (cQ : PySem.W.codeIn K cdQ "law" = true) (kQ : PySem.W.keepIn K (.ref fQ) = true)
    {tkMT : Tok} (aMT : PySem.W.nsIn K mainGlobals "MOST_TREE_PARTS" = some (some (.int 60 tkMT)))
    {CCN CRW CST CTX CTM CZE : Addr} (aCN : PySem.W.nsIn K mainGlobals "NoCut" = some (some (.ref CCN))) (aRW : PySem.W.nsIn K mainGlobals "NoRow" = some (some (.ref CRW))) (aST : PySem.W.nsIn K mainGlobals "NoSet" = some (some (.ref CST))) (aTX : PySem.W.nsIn K mainGlobals "NoText" = some (some (.ref CTX))) (aTM : PySem.W.nsIn K mainGlobals "TooMany" = some (some (.ref CTM))) (aZE : PySem.W.nsIn K mainGlobals "SplitError" = some (some (.ref CZE))) (eTM : PySem.W.excIn K CTM [.type "ValueError", .type "Exception", .type "BaseException", .type "object"] "ValueError.__new__" = true) (pTM : PySem.W.findIn K (.ref CTM) "__getattribute__" = some (some (.builtin "BaseException.__getattribute__"))) (nTM : PySem.W.findIn K (.ref CTM) "__getattr__" = some none) (sTM : PySem.W.subIn K (.ref CTM) (.type "BaseException") = some true) (hTM : PySem.W.hasDictIn K CTM = true) (fTM : PySem.W.findIn K (.ref CTM) "__class__" = some (some (.builtin "object.__class__"))) (gTM : PySem.W.specialIn K (.builtin "object.__class__") "__get__" = some (some (.builtin "getset_descriptor.__get__"))) (tTM : PySem.W.takesIn K (.builtin "object.__class__") = some true) (rTM : PySem.W.mroIn K CTM (.type "object") = some true) (xTM : PySem.W.exmOne K (.ref CTM) (.ref CZE) = some true) (oVE : PySem.W.kitOne K (.ref CTM) (.type "ValueError") = some true) (oCN : PySem.W.kitOne K (.ref CTM) (.ref CCN) = some false) (oRW : PySem.W.kitOne K (.ref CTM) (.ref CRW) = some false) (oST : PySem.W.kitOne K (.ref CTM) (.ref CST) = some false) (oTX : PySem.W.kitOne K (.ref CTM) (.ref CTX) = some false) (oTM : PySem.W.kitOne K (.ref CTM) (.ref CTM) = some true)
    (ylen : PySem.W.nsIn K mainGlobals "len" = some none) (yrange : PySem.W.nsIn K mainGlobals "range" = some none) (yenumerate : PySem.W.nsIn K mainGlobals "enumerate" = some none) (ylist : PySem.W.nsIn K mainGlobals "list" = some none) (yint : PySem.W.nsIn K mainGlobals "int" = some none) (ybool : PySem.W.nsIn K mainGlobals "bool" = some none) (yisinstance : PySem.W.nsIn K mainGlobals "isinstance" = some none) (ytuple : PySem.W.nsIn K mainGlobals "tuple" = some none) (ysorted : PySem.W.nsIn K mainGlobals "sorted" = some none) (yValueError : PySem.W.nsIn K mainGlobals "ValueError" = some none) :
    ∃ fd : FuncData, (∀ (s : Shared) (v : Value), BindsTo s fd ⟨[v], []⟩ [("_law_script", v)]) ∧ ∀ base : Heap, K.In base → base.Ns mainGlobals mg → FnOk l.prog w K mg base CX0 137 fa fd ["_law_script"] (spLaw K) := by
  have e := hfa.symm.trans (PySem.W.mg_of X G aQ)
  cases e
  have FH := fun_mk (st := sHas) lH cH kH
  have mH := PySem.W.mg_of X G aH
  have bH := FH.binds (ps := ["some", "column"]) fun _ _ _ _ _ _ us hl => match us, hl with | [_, _], _ => rfl
  have FC := fun_mk (st := sCols) lC cC kC
  have mC := PySem.W.mg_of X G aC
  have bC := FC.binds (ps := ["some"]) fun _ _ _ _ _ _ us hl => match us, hl with | [_], _ => rfl
  have FAL := fun_mk (st := sAll) lAL cAL kAL
  have mAL := PySem.W.mg_of X G aAL
  have bAL := FAL.binds (ps := ["many"]) fun _ _ _ _ _ _ us hl => match us, hl with | [_], _ => rfl
  have FIW := fun_mk (st := sWithin) lIW cIW kIW
  have mIW := PySem.W.mg_of X G aIW
  have bIW := FIW.binds (ps := ["one", "other"]) fun _ _ _ _ _ _ us hl => match us, hl with | [_, _], _ => rfl
  have FMO := fun_mk (st := sMore) lMO cMO kMO
  have mMO := PySem.W.mg_of X G aMO
  have bMO := FMO.binds (ps := ["sets", "some"]) fun _ _ _ _ _ _ us hl => match us, hl with | [_, _], _ => rfl
  have FCU := fun_mk (st := sCanUse) lCU cCU kCU
  have mCU := PySem.W.mg_of X G aCU
  have bCU := FCU.binds (ps := ["rule", "block"]) fun _ _ _ _ _ _ us hl => match us, hl with | [_, _], _ => rfl
  have FI := fun_mk (st := sListed) lI cI kI
  have mI := PySem.W.mg_of X G aI
  have bI := FI.binds (ps := ["block"]) fun _ _ _ _ _ _ us hl => match us, hl with | [_], _ => rfl
  have FUD := fun_mk (st := sUsed) lUD cUD kUD
  have mUD := PySem.W.mg_of X G aUD
  have bUD := FUD.binds (ps := ["rule", "fixed", "blocks", "at"]) fun _ _ _ _ _ _ us hl => match us, hl with | [_, _, _, _], _ => rfl
  have FBG := fun_mk (st := sBegun) lBG cBG kBG
  have mBG := PySem.W.mg_of X G aBG
  have bBG := FBG.binds (ps := ["many", "some"]) fun _ _ _ _ _ _ us hl => match us, hl with | [_, _], _ => rfl
  have FFU := fun_mk (st := sFirst) lFU cFU kFU
  have mFU := PySem.W.mg_of X G aFU
  have bFU := FFU.binds (ps := ["rules", "blocks"]) fun _ _ _ _ _ _ us hl => match us, hl with | [_, _], _ => rfl
  have FUN := fun_mk (st := sUnf) lUN cUN kUN
  have mUN := PySem.W.mg_of X G aUN
  have bUN := FUN.binds (ps := ["many", "rules", "some"]) fun _ _ _ _ _ _ us hl => match us, hl with | [_, _, _], _ => rfl
  have FTA := fun_mk (st := sAgain) lTA cTA kTA
  have mTA := PySem.W.mg_of X G aTA
  have bTA := FTA.binds (ps := ["many", "rules", "part", "some"]) fun _ _ _ _ _ _ us hl => match us, hl with | [_, _, _, _], _ => rfl
  have FTW := fun_mk (st := sTwice) lTW cTW kTW
  have mTW := PySem.W.mg_of X G aTW
  have bTW := FTW.binds (ps := ["many", "rules", "part"]) fun _ _ _ _ _ _ us hl => match us, hl with | [_, _, _], _ => rfl
  have FTR := fun_mk (st := sTree) lTR cTR kTR
  have mTR := PySem.W.mg_of X G aTR
  have bTR := FTR.binds (ps := ["many", "rules", "part"]) fun _ _ _ _ _ _ us hl => match us, hl with | [_, _, _], _ => rfl
  have FCO := fun_mk (st := sCount) lCO cCO kCO
  have mCO := PySem.W.mg_of X G aCO
  have bCO := FCO.binds (ps := ["tree"]) fun _ _ _ _ _ _ us hl => match us, hl with | [_], _ => rfl
  have FCT := fun_mk (st := sCutTree) lCT cCT kCT
  have mCT := PySem.W.mg_of X G aCT
  have bCT := FCT.binds (ps := ["many", "rules"]) fun _ _ _ _ _ _ us hl => match us, hl with | [_, _], _ => rfl
  have FLV := fun_mk (st := sLeaves) lLV cLV kLV
  have mLV := PySem.W.mg_of X G aLV
  have bLV := FLV.binds (ps := ["tree"]) fun _ _ _ _ _ _ us hl => match us, hl with | [_], _ => rfl
  have FT := fun_mk (st := sTake) lT cT kT
  have mT := PySem.W.mg_of X G aT
  have bT := FT.binds (ps := ["_law_state", "_law_most"]) fun _ _ _ _ _ _ us hl => match us, hl with | [_, _], _ => rfl
  have FS := fun_mk (st := sSet) lS cS kS
  have mS := PySem.W.mg_of X G aS
  have bS := FS.binds (ps := ["_law_state", "_law_many"]) fun _ _ _ _ _ _ us hl => match us, hl with | [_, _], _ => rfl
  have FRU := fun_mk (st := sRules) lRU cRU kRU
  have mRU := PySem.W.mg_of X G aRU
  have bRU := FRU.binds (ps := ["_law_state", "_law_many", "_law_count"]) fun _ _ _ _ _ _ us hl => match us, hl with | [_, _, _], _ => rfl
  have FTB := fun_mk (st := sTable) lTB cTB kTB
  have mTB := PySem.W.mg_of X G aTB
  have bTB := FTB.binds (ps := ["_law_state"]) fun _ _ _ _ _ _ us hl => match us, hl with | [_], _ => rfl
  have FPA := fun_mk (st := sPair) lPA cPA kPA
  have mPA := PySem.W.mg_of X G aPA
  have bPA := FPA.binds (ps := ["_law_many", "_law_rules_here", "_law_part", "_law_table_here"]) fun _ _ _ _ _ _ us hl => match us, hl with | [_, _, _, _], _ => rfl
  have FMP := fun_mk (st := sManyP) lMP cMP kMP
  have mMP := PySem.W.mg_of X G aMP
  have bMP := FMP.binds (ps := ["_law_many", "_law_rules_here", "_law_table_here"]) fun _ _ _ _ _ _ us hl => match us, hl with | [_, _, _], _ => rfl
  have FW := fun_mk (st := sWhole) lW cW kW
  have mW := PySem.W.mg_of X G aW
  have bW := FW.binds (ps := ["_law_found"]) fun _ _ _ _ _ _ us hl => match us, hl with | [_], _ => rfl
  have FRI := fun_mk (st := sRight) lRI cRI kRI
  have mRI := PySem.W.mg_of X G aRI
  have bRI := FRI.binds (ps := ["_law_many", "_law_rules_here", "_law_tree", "_law_part", "_law_table_here"]) fun _ _ _ _ _ _ us hl => match us, hl with | [_, _, _, _, _], _ => rfl
  have FEN := fun_mk (st := sEnds) lEN cEN kEN
  have mEN := PySem.W.mg_of X G aEN
  have bEN := FEN.binds (ps := ["_law_tree"]) fun _ _ _ _ _ _ us hl => match us, hl with | [_], _ => rfl
  have FRF := fun_mk (st := sRefused) lRF cRF kRF
  have mRF := PySem.W.mg_of X G aRF
  have bRF := FRF.binds (ps := ["_law_many", "_law_rules_here"]) fun _ _ _ _ _ _ us hl => match us, hl with | [_, _], _ => rfl
  have FQ := fun_mk (st := sLaw) lQ cQ kQ
  have mQ := PySem.W.mg_of X G aQ
  have mMT := PySem.W.mg_of X G aMT
  have zlen := PySem.W.mg_none_of X G ylen
  have zrange := PySem.W.mg_none_of X G yrange
  have zenumerate := PySem.W.mg_none_of X G yenumerate
  have zlist := PySem.W.mg_none_of X G ylist
  have zint := PySem.W.mg_none_of X G yint
  have zbool := PySem.W.mg_none_of X G ybool
  have zisinstance := PySem.W.mg_none_of X G yisinstance
  have ztuple := PySem.W.mg_none_of X G ytuple
  have zsorted := PySem.W.mg_none_of X G ysorted
  have zValueError := PySem.W.mg_none_of X G yValueError
  refine ⟨PySem.W.fnOf "law" "law" (defArgs sLaw) (defBody sLaw) (defScope sLaw) .none kVQ dcQ pmQ anQ cdQ ctQ, fun s v => .of_eq rfl, fun base _ _ => ?_⟩
  have mCN := PySem.W.mg_of X G aCN
  have mRW := PySem.W.mg_of X G aRW
  have mST := PySem.W.mg_of X G aST
  have mTX := PySem.W.mg_of X G aTX
  have mTM := PySem.W.mg_of X G aTM
  have mZE := PySem.W.mg_of X G aZE
  have GH := ok_has (P := l.prog) (w := w) (mg := mg) (base := base) FH
  have GC := ok_cols FC GH mH kH bH zrange
  have GAL := ok_all (P := l.prog) (w := w) (mg := mg) (base := base) FAL
  have GIW := ok_within (P := l.prog) (w := w) (mg := mg) (base := base) FIW
  have GMO := ok_more FMO GC mC kC bC zsorted
  have GCU := ok_canuse (P := l.prog) (w := w) (mg := mg) (base := base) FCU
  have GI := ok_listed (P := l.prog) (w := w) (mg := mg) (base := base) FI
  have GUD := ok_used FUD GI mI kI bI
  have GBG := ok_begun FBG GI mI kI bI GAL mAL kAL bAL
  have GFU := ok_first FFU GCU mCU kCU bCU zenumerate
  have GUN := ok_unf FUN GBG mBG kBG bBG GFU mFU kFU bFU GUD mUD kUD bUD
  have GTA := ok_again FTA GUN mUN kUN bUN GIW mIW kIW bIW zlen
  have GTW := ok_twice FTW GTA mTA kTA bTA GMO mMO kMO bMO
  have GTR := ok_tree FTR GTW mTW kTW bTW mTR kTR bTR 128
  have GCO := ok_count (P := l.prog) (w := w) (mg := mg) (base := base) FCO mCO kCO bCO 128
  have OTM : Exc K "TooMany" CTM := ⟨aTM, eTM⟩
  have iTM : ExcI K CTM := ⟨pTM, nTM, sTM, hTM, fTM, gTM, tTM, rTM⟩
  have GCT := ok_cuttree FCT GTR mTR kTR bTR GAL mAL kAL bAL GCO mCO kCO bCO OTM mMT
  have GLV := ok_leaves (P := l.prog) (w := w) (mg := mg) (base := base) FLV mLV kLV bLV 128
  have GT := ok_take (P := l.prog) (w := w) (base := base) FT zlen
  have GS := ok_set FS GT mT kT bT
  have GRU := ok_rules FRU GT mT kT bT GS mS kS bS zrange
  have GTB := ok_table FTB GT mT kT bT GRU mRU kRU bRU
  have GPA := ok_pair FPA GTW mTW kTW bTW zlist
  have GMP := ok_manyp FMP GPA mPA kPA bPA zlen
  have GW := ok_whole (P := l.prog) (w := w) (base := base) FW zisinstance zint zbool
  have GRI := ok_right FRI GPA mPA kPA bPA GW mW kW bW mRI kRI bRI zisinstance ztuple zlen 128
  have GEN := ok_ends (P := l.prog) (w := w) (base := base) FEN zlen
  have GRF := ok_refused FRF mCN mRW mST mTX mTM mZE iTM xTM oTM oVE oCN oRW oST oTX GCT mCT kCT bCT zisinstance zValueError
  exact ok_law FQ GTB mTB kTB bTB GMP mMP kMP bMP GRF mRF kRF bRF GCT.calm mCT kCT bCT GRI mRI kRI bRI GEN mEN kEN bEN GLV mLV kLV bLV GW mW kW bW zlist zisinstance zlen zrange
theorem walk {l : PySem.W.OpenLaw} {q : Program} {loose : List Str} {XP : (Str → Option Value) → Heap → Prop} {YP : World → Heap → Prop} {d : DefRec} {K : Params → PySem.W.Frag} (hn : l.most = some 63) (hdf : d.params.defaults = [])
    (hY : ∀ (w : World) (h : Heap), YP w h → (K w.params).In h)
    (F : ∀ (w : World) (mg : Str → Option Value) (fa : Addr) (h : Heap), (K w.params).In h → h.Ns mainGlobals mg → mg d.name = some (.ref fa) →
      ∃ fd : FuncData, (∀ (s : Shared) (u : Value), BindsTo s fd ⟨[u], []⟩ [("_law_script", u)]) ∧ ∀ base : Heap, (K w.params).In base → base.Ns mainGlobals mg → FnOk l.prog w (K w.params) mg base CX0 137 fa fd ["_law_script"] (spLaw (K w.params))) :
    PySem.W.WalkO q loose XP YP l.row.toRowW d [] (fun f vs => PySem.call f vs) :=
  L2.walk_of (n := 63) (k := 137) (x := "_law_script") (CX := fun _ => CX0) (sp := fun w => spLaw (K w.params)) hn (by decide) hdf ⟨rfl, by decide, by decide⟩ hY F (fun _ _ a ns hl hO hS => ⟨a, ns, rfl, SqF.of hO hS, hl, fun _ => rfl⟩) fun _ _ _ _ _ z => z
end Own
open PySem PySem.W PyProof.Rows
set_option maxRecDepth 100000 in
set_option maxHeartbeats 0 in
theorem PySem.Challenge.cw_splithouse_k62_the_tree_of_cuts_holds : PySem.Challenge.rw_splithouse_k62_the_tree_of_cuts.Holds := by
  w_on; o_law; k_head; (case hw => w_witness2)
  k_fill
  refine Own.walk (l := PySem.Challenge.rw_splithouse_k62_the_tree_of_cuts) rfl rfl (fun w h Y => PySem.W.kIn_of Y) ?F
  case F =>
    intro w mg fa h KX G hmg
    refine' Own.all_mk KX G hmg ?aH ?lH ?cH ?kH ?aC ?lC ?cC ?kC ?aAL ?lAL ?cAL ?kAL ?aIW ?lIW ?cIW ?kIW ?aMO ?lMO ?cMO ?kMO ?aCU ?lCU ?cCU ?kCU ?aI ?lI ?cI ?kI ?aUD ?lUD ?cUD ?kUD ?aBG ?lBG ?cBG ?kBG ?aFU ?lFU ?cFU ?kFU ?aUN ?lUN ?cUN ?kUN ?aTA ?lTA ?cTA ?kTA ?aTW ?lTW ?cTW ?kTW ?aTR ?lTR ?cTR ?kTR ?aCO ?lCO ?cCO ?kCO ?aCT ?lCT ?cCT ?kCT ?aLV ?lLV ?cLV ?kLV ?aT ?lT ?cT ?kT ?aS ?lS ?cS ?kS ?aRU ?lRU ?cRU ?kRU ?aTB ?lTB ?cTB ?kTB ?aPA ?lPA ?cPA ?kPA ?aMP ?lMP ?cMP ?kMP ?aW ?lW ?cW ?kW ?aRI ?lRI ?cRI ?kRI ?aEN ?lEN ?cEN ?kEN ?aRF ?lRF ?cRF ?kRF ?aQ ?lQ ?cQ ?kQ ?aMT ?aCN ?aRW ?aST ?aTX ?aTM ?aZE ?eTM ?pTM ?nTM ?sTM ?hTM ?fTM ?gTM ?tTM ?rTM ?xTM ?oVE ?oCN ?oRW ?oST ?oTX ?oTM ?ylen ?yrange ?yenumerate ?ylist ?yint ?ybool ?yisinstance ?ytuple ?ysorted ?yValueError
    (case aH => k_is)
    (case lH => k_is)
    (case cH => k_is)
    (case kH => k_is)
    (case aC => k_is)
    (case lC => k_is)
    (case cC => k_is)
    (case kC => k_is)
    (case aAL => k_is)
    (case lAL => k_is)
    (case cAL => k_is)
    (case kAL => k_is)
    (case aIW => k_is)
    (case lIW => k_is)
    (case cIW => k_is)
    (case kIW => k_is)
    (case aMO => k_is)
    (case lMO => k_is)
    (case cMO => k_is)
    (case kMO => k_is)
    (case aCU => k_is)
    (case lCU => k_is)
    (case cCU => k_is)
    (case kCU => k_is)
    (case aI => k_is)
    (case lI => k_is)
    (case cI => k_is)
    (case kI => k_is)
    (case aUD => k_is)
    (case lUD => k_is)
    (case cUD => k_is)
    (case kUD => k_is)
    (case aBG => k_is)
    (case lBG => k_is)
    (case cBG => k_is)
    (case kBG => k_is)
    (case aFU => k_is)
    (case lFU => k_is)
    (case cFU => k_is)
    (case kFU => k_is)
    (case aUN => k_is)
    (case lUN => k_is)
    (case cUN => k_is)
    (case kUN => k_is)
    (case aTA => k_is)
    (case lTA => k_is)
    (case cTA => k_is)
    (case kTA => k_is)
    (case aTW => k_is)
    (case lTW => k_is)
    (case cTW => k_is)
    (case kTW => k_is)
    (case aTR => k_is)
    (case lTR => k_is)
    (case cTR => k_is)
    (case kTR => k_is)
    (case aCO => k_is)
    (case lCO => k_is)
    (case cCO => k_is)
    (case kCO => k_is)
    (case aCT => k_is)
    (case lCT => k_is)
    (case cCT => k_is)
    (case kCT => k_is)
    (case aLV => k_is)
    (case lLV => k_is)
    (case cLV => k_is)
    (case kLV => k_is)
    (case aT => k_is)
    (case lT => k_is)
    (case cT => k_is)
    (case kT => k_is)
    (case aS => k_is)
    (case lS => k_is)
    (case cS => k_is)
    (case kS => k_is)
    (case aRU => k_is)
    (case lRU => k_is)
    (case cRU => k_is)
    (case kRU => k_is)
    (case aTB => k_is)
    (case lTB => k_is)
    (case cTB => k_is)
    (case kTB => k_is)
    (case aPA => k_is)
    (case lPA => k_is)
    (case cPA => k_is)
    (case kPA => k_is)
    (case aMP => k_is)
    (case lMP => k_is)
    (case cMP => k_is)
    (case kMP => k_is)
    (case aW => k_is)
    (case lW => k_is)
    (case cW => k_is)
    (case kW => k_is)
    (case aRI => k_is)
    (case lRI => k_is)
    (case cRI => k_is)
    (case kRI => k_is)
    (case aEN => k_is)
    (case lEN => k_is)
    (case cEN => k_is)
    (case kEN => k_is)
    (case aRF => k_is)
    (case lRF => k_is)
    (case cRF => k_is)
    (case kRF => k_is)
    (case aQ => k_is)
    (case lQ => k_is)
    (case cQ => k_is)
    (case kQ => k_is)
    (case aMT => k_is)
    (case aCN => k_is)
    (case aRW => k_is)
    (case aST => k_is)
    (case aTX => k_is)
    (case aTM => k_is)
    (case aZE => k_is)
    (case eTM => k_exc)
    (case pTM => k_is)
    (case nTM => k_is)
    (case sTM => k_is)
    (case hTM => k_is)
    (case fTM => k_is)
    (case gTM => k_is)
    (case tTM => k_is)
    (case rTM => k_is)
    (case xTM => kts_exm)
    (case oVE => kit_is)
    (case oCN => kit_is)
    (case oRW => kit_is)
    (case oST => kit_is)
    (case oTX => kit_is)
    (case oTM => kit_is)
    (case ylen => k_is)
    (case yrange => k_is)
    (case yenumerate => k_is)
    (case ylist => k_is)
    (case yint => k_is)
    (case ybool => k_is)
    (case yisinstance => k_is)
    (case ytuple => k_is)
    (case ysorted => k_is)
    (case yValueError => k_is)


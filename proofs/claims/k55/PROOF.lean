import PyProof.Rows.All
import Wide.All
import OpenK.AllK
import Wide.FinOn
import Lean
import PyProof.EqAt
import PyProof.EqKinds
import PyProof.TupleCall
import PyProof.SetRoads
import PyProof.Rows.SetFrom
import PySem.Challenge.RW_splithouse_k55_what_filled_tables_keep
-- CHANGE: your row's module here, as the last of these rows
set_option Elab.async false
set_option linter.all false
set_option maxRecDepth 100000
/-! THE HAND LAYER, for ints, bools, texts, own classes, LISTS and tuples (index, slices, in, append, pop ..), calls, loops. Paste it whole ahead of your own text; what your proof does not reach may be deleted. -/
namespace L2
open PySem PySem.Spec PyProof.Rows

/-- a key: an int or a str -/
abbrev Key := Sum Int Str
def keyIs : Key → Value → Bool
  | .inl k, v => Value.isInt k v
  | .inr x, v => Value.isStrOf x v
def keyH (w : World) : Key → Int
  | .inl k => hashInt k
  | .inr x => hashStr w x
theorem keyIs_shape : ∀ {k : Key} {v : Value}, keyIs k v = true → (∃ i t, k = Sum.inl i ∧ v = Value.int i t) ∨ (∃ x t, k = Sum.inr x ∧ v = Value.str x t)
  | .inl i, v, h => by
    obtain ⟨t, e⟩ := Value.isInt_shape (k := i) (v := v) h
    exact .inl ⟨i, t, rfl, e⟩
  | .inr x, v, h => by
    obtain ⟨t, e⟩ := Value.isStrOf_shape (x := x) (v := v) h
    exact .inr ⟨x, t, rfl, e⟩
theorem keyIs_int (i : Int) (t : Tok) : keyIs (.inl i) (.int i t) = true := by simp [keyIs, Value.isInt]
theorem keyIs_str (x : Str) (t : Tok) : keyIs (.inr x) (.str x t) = true := by simp [keyIs, Value.isStrOf]
theorem key_ll (a b : Int) : decide ((Sum.inl a : Key) = Sum.inl b) = (a == b) := by
  by_cases e : a = b
  · subst e; simp
  · have h : ¬ (Sum.inl a : Key) = Sum.inl b := fun q => e (Sum.inl.inj q)
    rw [decide_eq_false h]
    exact (beq_eq_false_iff_ne.mpr e).symm
theorem key_rr (a b : Str) : decide ((Sum.inr a : Key) = Sum.inr b) = decide (a = b) := by
  by_cases e : a = b
  · subst e; simp
  · have h : ¬ (Sum.inr a : Key) = Sum.inr b := fun q => e (Sum.inr.inj q)
    rw [decide_eq_false h, decide_eq_false e]
theorem key_lr (a : Int) (b : Str) : decide ((Sum.inl a : Key) = Sum.inr b) = false := decide_eq_false (fun q => nomatch q)
theorem key_rl (a : Str) (b : Int) : decide ((Sum.inr a : Key) = Sum.inl b) = false := decide_eq_false (fun q => nomatch q)

def mixKind (prog : Program) (w : World) : PySem.KeyKind prog w Key where
  is := keyIs
  hash := keyH w
  inj := fun v a b ha hb => by
    rcases keyIs_shape ha with ⟨i, t, rfl, rfl⟩ | ⟨x, t, rfl, rfl⟩
    · rcases keyIs_shape hb with ⟨j, u, rfl, e⟩ | ⟨y, u, rfl, e⟩
      · injection e with e1 _; rw [e1]
      · exact nomatch e
    · rcases keyIs_shape hb with ⟨j, u, rfl, e⟩ | ⟨y, u, rfl, e⟩
      · exact nomatch e
      · injection e with e1 _; rw [e1]
  byValue := fun k v h => by
    rcases keyIs_shape h with ⟨i, t, rfl, rfl⟩ | ⟨x, t, rfl, rfl⟩ <;> rfl
  pyHash := fun hv h => by
    rcases keyIs_shape hv with ⟨i, t, rfl, rfl⟩ | ⟨x, t, rfl, rfl⟩
    · exact wpAny_pyHash_int h
    · exact wpAny_pyHash_str h
  eqBool := fun hu hv h => by
    rcases keyIs_shape hu with ⟨i, t, rfl, rfl⟩ | ⟨x, t, rfl, rfl⟩
    · rcases keyIs_shape hv with ⟨j, u, rfl, rfl⟩ | ⟨y, u, rfl, rfl⟩
      · rw [key_ll] at h; exact wpAny_eqBool_int h
      · rw [key_lr] at h; exact SeqAt.EqAt.int_str i t y u _ _ _ _ h
    · rcases keyIs_shape hv with ⟨j, u, rfl, rfl⟩ | ⟨y, u, rfl, rfl⟩
      · rw [key_rl] at h; exact SeqAt.EqAt.str_int x t j u _ _ _ _ h
      · rw [key_rr] at h; exact wpAny_eqBool_str h
  «strs» := fun k x t v h => by
    rcases keyIs_shape h with ⟨i, u, rfl, e⟩ | ⟨y, u, rfl, e⟩
    · exact nomatch e
    · injection e with e1 _
      subst e1
      cases v <;> rfl

theorem mixKind_int (prog : Program) (w : World) (i : Int) (t : Tok) : (mixKind prog w).is (.inl i) (.int i t) = true := keyIs_int i t
theorem mixKind_str (prog : Program) (w : World) (x : Str) (t : Tok) : (mixKind prog w).is (.inr x) (.str x t) = true := keyIs_str x t
end L2

namespace L2
open PySem PySem.Spec PyProof.Rows

/-- a value, without the heap -/
inductive V where
  | non | bl (b : Bool) | int (i : Int) | str (x : Str) | byt (b : Array UInt8) | flt (b : UInt64) | ref (a : Addr) | ty (n : String)
  deriving DecidableEq

def RelV : V → Value → Prop
  | .non, u => u = Value.none
  | .bl b, u => u = Value.bool b
  | .int i, u => ∃ t, u = Value.int i t
  | .str x, u => ∃ t, u = Value.str x t
  | .byt b, u => ∃ t, u = Value.bytes b t
  | .flt b, u => ∃ t, u = Value.float b t
  | .ref a, u => u = Value.ref a
  | .ty n, u => u = Value.type n

abbrev Vals : List V → List Value → Prop := Paired RelV
theorem Vals.length {xs : List V} {us : List Value} (r : Vals xs us) : xs.length = us.length := Paired.length r
theorem Vals.get : ∀ {xs : List V} {us : List Value} {i : Nat} {x : V}, Vals xs us → xs[i]? = some x → ∃ u, us[i]? = some u ∧ RelV x u
  | _, _, _, _, .nil, e => by simp at e
  | _, _, 0, _, .cons r _, e => by simp at e; subst e; exact ⟨_, rfl, r⟩
  | _, _, i + 1, x, .cons _ t, e => by
    obtain ⟨u, h1, h2⟩ := Vals.get (i := i) (x := x) t (by simpa using e)
    exact ⟨u, by simpa using h1, h2⟩
theorem Vals.set {x : V} {u : Value} (r : RelV x u) : ∀ {xs : List V} {us : List Value} (i : Nat), Vals xs us → Vals (xs.set i x) (us.set i u)
  | _, _, _, .nil => .nil
  | _, _, 0, .cons _ t => .cons r t
  | _, _, i + 1, .cons q t => .cons q (Vals.set r i t)
theorem Vals.append : ∀ {xs ys : List V} {us ws : List Value}, Vals xs us → Vals ys ws → Vals (xs ++ ys) (us ++ ws)
  | _, _, _, _, .nil, s => s
  | _, _, _, _, .cons r t, s => .cons r (Vals.append t s)
theorem Vals.take : ∀ {xs : List V} {us : List Value} (n : Nat), Vals xs us → Vals (xs.take n) (us.take n)
  | _, _, 0, _ => .nil
  | _, _, _ + 1, .nil => .nil
  | _, _, n + 1, .cons r t => .cons r (Vals.take n t)
theorem Vals.drop : ∀ {xs : List V} {us : List Value} (n : Nat), Vals xs us → Vals (xs.drop n) (us.drop n)
  | _, _, 0, r => r
  | _, _, _ + 1, .nil => .nil
  | _, _, n + 1, .cons _ t => Vals.drop n t
def RelO : Option V → Option Value → Prop
  | some v, some u => RelV v u
  | none, none => True
  | _, _ => False
def KV {κ : Type} : List (κ × V) → List (κ × Value) → Prop := Paired fun (p : κ × V) (q : κ × Value) => p.1 = q.1 ∧ RelV p.2 q.2

/-- a key of a dict (00_mix): an int or a text -/
def kV : Key → V
  | .inl i => .int i
  | .inr x => .str x

/-- what stands at a tracked address -/
inductive HO where
  /-- a list -/
  | lst (xs : List V)
  /-- a tuple (never changes) -/
  | tup (xs : List V)
  /-- a dict whose keys are ints and texts; one whose keys are tuples of ints and texts (the empty one is both) -/
  | dK (kvs : List (Key × V)) | dT (kvs : List (List Key × V))
  /-- a set of ints: its members, its size -/
  | set (S : Int → Bool) (n : Nat)
  /-- an instance of the class at C, its dict at dx, its attributes -/
  | ins (C dx : Addr) (fs : List (Str × V))
  /-- the dict of the instance at x -/
  | own (x : Addr)
  /-- the dict of an exception -/
  | xd (fs : List (Str × V))
  /-- a bound method, f of x -/
  | met (f x : Addr)
  /-- a range object lo, lo + 1, .. below hi -/
  | rng (lo hi : Int)
  /-- a thing that is known to the object (the script; a dict while a loop walks it): read, never written while it is so -/
  | frz (o : Obj) (u : HO)
  /-- a code object's table -/
  | tbl (ps : Array Value)
  /-- any other thing, by what is true of its one object (a def of one's own: SetO a S n := HO.ext fun h => ..) -/
  | ext (φ : Heap → Prop)

abbrev Hp := Addr → Option HO
def upd (H : Hp) (a : Addr) (o : HO) : Hp := fun b => if b = a then some o else H b
theorem upd_same {H : Hp} {a : Addr} {o : HO} : upd H a o a = some o := by unfold upd; rw [if_pos rfl]
theorem upd_ne {H : Hp} {a b : Addr} {o : HO} (h : b ≠ a) : upd H a o b = H b := by unfold upd; rw [if_neg h]
theorem upd_upd {H : Hp} {a : Addr} {o u : HO} : upd (upd H a o) a u = upd H a u := by
  funext b; unfold upd; split <;> rfl
/-- two objects of different content stand apart -/
theorem ne_of {H : Hp} {a b : Addr} {o u : HO} (h : H a = some o) (h' : H b = some u) (d : o ≠ u) : a ≠ b := by
  intro e; subst e; rw [h] at h'; exact d (Option.some.inj h')
theorem ne_of_none {H : Hp} {a b : Addr} {o : HO} (h : H a = some o) (h' : H b = none) : a ≠ b := by
  intro e; subst e; rw [h] at h'; cases h'

section
variable (P : Program) (w : World)
def ObjOk (H : Hp) (h : Heap) (a : Addr) : HO → Prop
  | .lst xs => xs.length ≤ sizeLine ∧ ∃ (its : List Value) (n : Nat), Vals xs its ∧ h.get? a = some { cls := .type "list", data := .seq its.toArray n }
  | .tup xs => xs.length ≤ sizeLine ∧ ∃ its : List Value, Vals xs its ∧ IsTup h a its.toArray
  | .dK kvs => kvs.length ≤ sizeLine ∧ (a == sysModules) = false ∧ ∃ vs, KV kvs vs ∧ h.DictOf (mixKind P w) a vs
  | .dT kvs => kvs.length ≤ sizeLine ∧ (a == sysModules) = false ∧ ∃ xs : List (List Key × Addr × Value),
      Paired (fun (p : List Key × V) (q : List Key × Addr × Value) => p.1 = q.1 ∧ H q.2.1 = some (.tup (p.1.map kV)) ∧ RelV p.2 q.2.2) kvs xs ∧
      ∃ o es ep, h.get? a = some o ∧ o.ExactDict ∧ o.data = .dict es ep ∧ es.toList = xs.map (entryOfKey (tupleKind (mixKind P w))) ∧ (xs.map (·.1)).Nodup
  | .set S n => h.SetOf (intKind P w) a S n
  | .ins C dx fs => H dx = some (.own a) ∧ fs.length ≤ 1000 ∧ dx ≠ a ∧ h.get? a = some (PySem.W.instObj C dx) ∧
      ∃ mA, h.Ns1 dx mA ∧ (∀ f, RelO (fs.lookup f) (mA f)) ∧ PySem.Within mA (fs.map (·.1))
  | .own _ => ∃ o, h.get? a = some o
  | .xd fs => ∃ mA, h.Ns1 a mA ∧ ∀ f, RelO (fs.lookup f) (mA f)
  | .rng lo hi => ∃ t u v, h.get? a = some { cls := .type "range", data := .fields #[.int lo t, .int hi u, .int 1 v] }
  | .frz o u => h.get? a = some o ∧ ObjOk H h a u
  | .tbl ps => h.get? a = some { cls := .none, data := .fields ps }
  | .met f x => h.get? a = some (PySem.W.methodObj (.ref f) (.ref x))
  | .ext φ => φ h ∧ (∃ o, h.get? a = some o) ∧ ∀ h1 h2 : Heap, φ h1 → (∀ o, h1.get? a = some o → h2.get? a = some o) → φ h2
/-- the abstract heap is held -/
def HOk (H : Hp) (h : Heap) : Prop := ∀ a o, H a = some o → ObjOk P w H h a o
end

section
variable {P : Program} {w : World} {H H' : Hp} {h h' : Heap} {a : Addr} {o : HO}
theorem ObjOk.lt (x : ObjOk P w H h a o) : a < h.objs.size := by
  cases o with
  | lst xs => obtain ⟨_, _, _, _, e⟩ := x; exact Heap.lt_size e
  | tup xs => obtain ⟨_, _, _, p⟩ := x; exact p.lt
  | dK kvs => obtain ⟨_, _, _, _, o, _, _, e, _⟩ := x; exact Heap.lt_size e
  | dT kvs => obtain ⟨_, _, _, _, o, _, _, e, _⟩ := x; exact Heap.lt_size e
  | set S n => obtain ⟨o, _, _, _, e, _⟩ := x; exact Heap.lt_size e
  | ins C dx fs => obtain ⟨_, _, _, e, _⟩ := x; exact Heap.lt_size e
  | own y => obtain ⟨_, e⟩ := x; exact Heap.lt_size e
  | xd fs => obtain ⟨_, ⟨_, _, _, e, _⟩, _⟩ := x; exact Heap.lt_size e
  | rng lo hi => obtain ⟨_, _, _, e⟩ := x; exact Heap.lt_size e
  | frz ob u => obtain ⟨e, _⟩ := x; exact Heap.lt_size e
  | tbl ps => exact Heap.lt_size (show h.get? a = some _ from x)
  | met f y => exact Heap.lt_size (show h.get? a = some _ from x)
  | ext φ => obtain ⟨_, ⟨_, e⟩, _⟩ := x; exact Heap.lt_size e
theorem Paired.mapP {α β : Type} {F G : α → β → Prop} : ∀ {l₁ : List α} {l₂ : List β}, Paired F l₁ l₂ → (∀ a b, F a b → G a b) → Paired G l₁ l₂
  | _, _, .nil, _ => .nil
  | _, _, .cons r t, f => .cons (f _ _ r) (Paired.mapP t f)
/-- what an object's description leans on: its own object, its own dict, the tuples -/
theorem ObjOk.stay (x : ObjOk P w H h a o) (k : ∀ b u, (b = a ∨ H b = some (.own a)) → h.get? b = some u → h'.get? b = some u)
    (ho : ∀ b, H b = some (.own a) → H' b = some (.own a)) (ht : ∀ b xs, H b = some (.tup xs) → H' b = some (.tup xs)) : ObjOk P w H' h' a o := by
  induction o with
  | lst xs => obtain ⟨z, its, n, r, e⟩ := x; exact ⟨z, its, n, r, k _ _ (.inl rfl) e⟩
  | tup xs => obtain ⟨z, its, r, ob, e, c⟩ := x; exact ⟨z, its, r, ob, k _ _ (.inl rfl) e, c⟩
  | dK kvs => obtain ⟨z, y, vs, r, ob, es, ep, e, c⟩ := x; exact ⟨z, y, vs, r, ob, es, ep, k _ _ (.inl rfl) e, c⟩
  | dT kvs =>
    obtain ⟨z, y, xs, r, ob, es, ep, e, c⟩ := x
    exact ⟨z, y, xs, Paired.mapP r fun p q z => ⟨z.1, ht _ _ z.2.1, z.2.2⟩, ob, es, ep, k _ _ (.inl rfl) e, c⟩
  | set S n => obtain ⟨ob, es, ep, t, e, c⟩ := x; exact ⟨ob, es, ep, t, k _ _ (.inl rfl) e, c⟩
  | ins C dx fs =>
    obtain ⟨d, z, ne, e, mA, ⟨od, es, ep, e2, c⟩, r⟩ := x
    exact ⟨ho _ d, z, ne, k _ _ (.inl rfl) e, mA, ⟨od, es, ep, k _ _ (.inr d) e2, c⟩, r⟩
  | own y => obtain ⟨ob, e⟩ := x; exact ⟨ob, k _ _ (.inl rfl) e⟩
  | xd fs => obtain ⟨mA, ⟨od, es, ep, e, c⟩, r⟩ := x; exact ⟨mA, ⟨od, es, ep, k _ _ (.inl rfl) e, c⟩, r⟩
  | rng lo hi => obtain ⟨t, u, v, e⟩ := x; exact ⟨t, u, v, k _ _ (.inl rfl) e⟩
  | frz ob u ih => obtain ⟨e, q⟩ := x; exact ⟨k _ _ (.inl rfl) e, ih q⟩
  | tbl ps =>
    have e : h.get? a = some { cls := .none, data := .fields ps } := x
    show h'.get? a = some { cls := .none, data := .fields ps }
    exact k a _ (.inl rfl) e
  | met f y =>
    have e : h.get? a = some (PySem.W.methodObj (.ref f) (.ref y)) := x
    show h'.get? a = some (PySem.W.methodObj (.ref f) (.ref y))
    exact k a _ (.inl rfl) e
  | ext φ => obtain ⟨p, ⟨o, e⟩, st⟩ := x; exact ⟨st _ _ p fun o q => k _ _ (.inl rfl) q, ⟨o, k _ _ (.inl rfl) e⟩, st⟩
theorem HOk.lt (x : HOk P w H h) (e : H a = some o) : a < h.objs.size := (x a o e).lt
theorem HOk.fresh (x : HOk P w H h) (e : h.objs.size ≤ a) : H a = none := by
  cases q : H a with
  | none => rfl
  | some u => exact absurd (Nat.lt_of_lt_of_le (x.lt q) e) (Nat.lt_irrefl _)
/-- every object of the heap is kept -/
theorem HOk.kept (x : HOk P w H h) (k : ∀ b u, h.get? b = some u → h'.get? b = some u) : HOk P w H h' := fun a o e =>
  (x a o e).stay (fun b u _ q => k b u q) (fun _ q => q) fun _ _ q => q
/-- a new object is laid and tracked -/
theorem HOk.laid (x : HOk P w H h) (k : ∀ b u, h.get? b = some u → h'.get? b = some u) (hp : h.objs.size ≤ a) (new : ObjOk P w (upd H a o) h' a o) : HOk P w (upd H a o) h' := fun b u e => by
  have hn := x.fresh hp
  by_cases hb : b = a
  · subst hb; rw [upd_same] at e; cases e; exact new
  · rw [upd_ne hb] at e
    exact (x b u e).stay (fun c v _ q => k c v q) (fun c q => by rw [upd_ne (ne_of_none q hn)]; exact q) fun c xs q => by rw [upd_ne (ne_of_none q hn)]; exact q
end

/-- what may be read as u: it is u, or a known u -/
def Rd (H : Hp) (a : Addr) (u : HO) : Prop := H a = some u ∨ ∃ o, H a = some (.frz o u)
theorem Rd.of {H : Hp} {a : Addr} {u : HO} (h : H a = some u) : Rd H a u := .inl h
theorem Rd.ok {P : Program} {w : World} {H : Hp} {h : Heap} {a : Addr} {u : HO} (r : Rd H a u) (x : HOk P w H h) : ObjOk P w H h a u := by
  rcases r with r | ⟨o, r⟩
  · exact x a u r
  · obtain ⟨_, q⟩ := x a _ r
    exact q
/-- what may be written -/
def Mut : Option HO → Prop
  | some (.lst _) => True
  | some (.dK _) => True
  | some (.dT _) => True
  | some (.set _ _) => True
  | some (.ins _ _ _) => True
  | some (.ext _) => True
  | _ => False
section
variable {P : Program} {w : World} {H : Hp} {h h' : Heap} {x e : Addr} {o' : HO}
/-- the object at e is changed: x itself, or the dict of the instance x -/
theorem HOk.write (ok : HOk P w H h) (mu : Mut (H x)) (he : e = x ∨ H e = some (.own x)) (k : ∀ b u, b ≠ e → h.get? b = some u → h'.get? b = some u) (heo : ∃ u, h'.get? e = some u)
    (new : ObjOk P w (upd H x o') h' x o') : HOk P w (upd H x o') h' := fun b u q => by
  have nown : ∀ c y, H c = some (.own y) → c ≠ x := fun c y r z => by subst z; rw [r] at mu; exact mu
  have ntup : ∀ c xs, H c = some (.tup xs) → c ≠ x := fun c xs r z => by subst z; rw [r] at mu; exact mu
  by_cases hb : b = x
  · subst hb; rw [upd_same] at q; cases q; exact new
  · rw [upd_ne hb] at q
    by_cases hbe : b = e
    · have q' : H b = some (.own x) := by
        rcases he with z | z
        · exact absurd (hbe.trans z) hb
        · rw [hbe]; exact z
      rw [q] at q'; cases q'
      obtain ⟨v, hv⟩ := heo
      exact ⟨v, by rw [hbe]; exact hv⟩
    · refine (ok b u q).stay (fun c v hc r => k c v ?_ r) (fun c r => by rw [upd_ne (nown c b r)]; exact r) fun c xs r => by rw [upd_ne (ntup c xs r)]; exact r
      rcases hc with rfl | hc
      · exact hbe
      · rintro rfl
        rcases he with z | z
        · exact nown c b hc z
        · rw [hc] at z; cases z; exact hb rfl
end

/-! ### kept unless tracked; of the frames at fs (the callers') the slots may change (an exception that passes writes there); of the records at ex (iterators) nothing is said -/
structure Un (fs ex : List Addr) (H H' : Hp) (h h' : Heap) : Prop where
  keep : ∀ b o, h.get? b = some o → H b = none → b ∉ fs → b ∉ ex → h'.get? b = some o
  slot : ∀ b o, h.get? b = some o → H b = none → b ∈ fs → b ∉ ex → ∃ sl, h'.get? b = some { o with slots := sl }
  free : ∀ b o, h.get? b = some o → H b = none → b ∉ ex → H' b = none
  there : ∀ b o, h.get? b = some o → b ∉ ex → ∃ o', h'.get? b = some o'
  tups : ∀ b xs, H b = some (.tup xs) → H' b = some (.tup xs)
  frzs : ∀ b o u, H b = some (.frz o u) → H' b = some (.frz o u)
  tbls : ∀ b ps, H b = some (.tbl ps) → ∃ more, H' b = some (.tbl (ps ++ more))
section
variable {fs fs' ex ex' : List Addr} {H H1 H2 : Hp} {h h1 h2 h' : Heap} {a x e : Addr} {o : HO}
theorem Un.any (u : Un fs ex H H1 h h1) {b : Addr} {ob : Obj} (q : h.get? b = some ob) (n : H b = none) (hx : b ∉ ex) : ∃ sl, h1.get? b = some { ob with slots := sl } := by
  by_cases hb : b ∈ fs
  · exact u.slot b ob q n hb hx
  · exact ⟨ob.slots, u.keep b ob q n hb hx⟩
theorem Un.trans (a : Un fs ex H H1 h h1) (b : Un fs ex H1 H2 h1 h2) : Un fs ex H H2 h h2 where
  keep := fun c ob q n hc hx => b.keep c ob (a.keep c ob q n hc hx) (a.free c ob q n hx) hc hx
  slot := fun c ob q n hc hx => by
    obtain ⟨sl, e1⟩ := a.slot c ob q n hc hx
    obtain ⟨sl', e2⟩ := b.slot c _ e1 (a.free c ob q n hx) hc hx
    exact ⟨sl', e2⟩
  free := fun c ob q n hx => by
    obtain ⟨o', e1⟩ := a.there c ob q hx
    exact b.free c o' e1 (a.free c ob q n hx) hx
  there := fun c ob q hx => by
    obtain ⟨o', e1⟩ := a.there c ob q hx
    exact b.there c o' e1 hx
  tups := fun c xs q => b.tups c xs (a.tups c xs q)
  frzs := fun c ob xs q => b.frzs c ob xs (a.frzs c ob xs q)
  tbls := fun c ps q => by
    obtain ⟨m1, e1⟩ := a.tbls c ps q
    obtain ⟨m2, e2⟩ := b.tbls c _ e1
    exact ⟨m1 ++ m2, by rw [e2, Array.append_assoc]⟩
theorem Un.kept (k : ∀ b u, h.get? b = some u → h'.get? b = some u) : Un fs ex H H h h' :=
  ⟨fun b ob q _ _ _ => k b ob q, fun b ob q _ _ _ => ⟨ob.slots, k b ob q⟩, fun _ _ _ n _ => n, fun b ob q _ => ⟨ob, k b ob q⟩, fun _ _ q => q, fun _ _ _ q => q, fun _ ps q => ⟨#[], by rw [q]; simp⟩⟩
theorem Un.refl : Un fs ex H H h h := Un.kept fun _ _ q => q
theorem Un.laid (k : ∀ b u, h.get? b = some u → h'.get? b = some u) (hp : h.objs.size ≤ a) (hn : H a = none) : Un fs ex H (upd H a o) h h' where
  keep := fun b u q _ _ _ => k b u q
  slot := fun b u q _ _ _ => ⟨u.slots, k b u q⟩
  free := fun b u q n _ => by rw [upd_ne (Nat.ne_of_lt (Nat.lt_of_lt_of_le (Heap.lt_size q) hp))]; exact n
  there := fun b u q _ => ⟨u, k b u q⟩
  tups := fun b xs q => by rw [upd_ne (ne_of_none q hn)]; exact q
  frzs := fun b u xs q => by rw [upd_ne (ne_of_none q hn)]; exact q
  tbls := fun b ps q => ⟨#[], by rw [upd_ne (ne_of_none q hn), q]; simp⟩
theorem Un.write (mu : Mut (H x)) (he : e = x ∨ H e = some (.own x)) (k : ∀ b u, b ≠ e → h.get? b = some u → h'.get? b = some u) (heo : ∃ u, h'.get? e = some u) : Un fs ex H (upd H x o) h h' := by
  have hx : ∀ b, H b = none → b ≠ x := fun b n z => by subst z; rw [n] at mu; exact mu
  have hb : ∀ b, H b = none → b ≠ e := fun b n z => by
    subst z
    rcases he with r | r
    · exact hx b n r
    · rw [n] at r; cases r
  have hm : ∀ b u, H b = some u → ¬ Mut (some u) → b ≠ x := fun b u q nm z => by subst z; rw [q] at mu; exact nm mu
  refine ⟨fun b u q n _ _ => k b u (hb b n) q, fun b u q n _ _ => ⟨u.slots, k b u (hb b n) q⟩, fun b u q n _ => by rw [upd_ne (hx b n)]; exact n, fun b u q _ => ?_,
    fun b xs q => by rw [upd_ne (hm b _ q fun z => z)]; exact q, fun b u xs q => by rw [upd_ne (hm b _ q fun z => z)]; exact q, fun b ps q => ⟨#[], by rw [upd_ne (hm b _ q fun z => z), q]; simp⟩⟩
  by_cases hbe : b = e
  · subst hbe; exact heo
  · exact ⟨u, k b u hbe q⟩
theorem Un.mono (u : Un fs ex H H1 h h1) (hs : ∀ b ∈ fs, b ∈ fs') (hx : ∀ b ∈ ex, b ∈ ex') : Un fs' ex' H H1 h h1 :=
  ⟨fun b ob q n hb he => u.keep b ob q n (fun z => hb (hs b z)) fun z => he (hx b z), fun _ _ q n _ he => u.any q n fun z => he (hx _ z), fun b ob q n he => u.free b ob q n fun z => he (hx b z), fun b ob q he => u.there b ob q fun z => he (hx b z), u.tups, u.frzs, u.tbls⟩
end

/-! ### the heap without what is tracked -/
def trk (h : Heap) (H : Hp) : List Addr := (List.range h.objs.size).filter fun a => (H a).isSome
def hidT (h : Heap) (H : Hp) : Heap := PySem.W.hideAll h (trk h H)
theorem hidT_size (h : Heap) (H : Hp) : (hidT h H).objs.size = h.objs.size := PySem.W.hideAll_size _ _
theorem hidT_get {h : Heap} {H : Hp} {b : Addr} {o : Obj} (e : h.get? b = some o) (n : H b = none) : (hidT h H).get? b = some o :=
  PySem.W.hideAll_get _ e fun hm => by
    have q : (H b).isSome = true := (List.mem_filter.mp hm).2
    rw [n] at q; simp at q
theorem of_hidT {h : Heap} {H : Hp} {b : Addr} {o : Obj} (e : (hidT h H).get? b = some o) : h.get? b = some o ∧ H b = none := by
  have e' : h.get? b = some o := PySem.W.of_hideAll (trk h H) e
  refine ⟨e', ?_⟩
  cases q : H b with
  | none => rfl
  | some x =>
    have hm : b ∈ trk h H := List.mem_filter.mpr ⟨List.mem_range.mpr (Heap.lt_size e'), by simp [q]⟩
    have z : (hidT h H).get? b = none := PySem.W.hideAll_none (trk h H) hm
    rw [z] at e; cases e

/-! ### OpenK's ledger, filled with every new object but one -/
def allNews (g h : Heap) (L : Addr) : List (Addr × Obj) := (List.range h.objs.size).filterMap fun a => if a = L ∨ (g.get? a).isSome = true then none else (h.get? a).map fun o => (a, o)
def rest (g h : Heap) (L d : Addr) : List (Addr × Obj) := (allNews g h L).filter fun p => decide (p.1 ≠ d)
end L2

namespace L2
open PySem PySem.Spec PyProof.Rows

/-- the module's facts, over the base: the heap at the law's entry without what is tracked there -/
structure Mod (K : PySem.W.Frag) (mg : Str → Option Value) (base : Heap) : Prop where
  kin : K.In base
  glob : base.Ns mainGlobals mg
  blt : ∃ mb, base.Ns builtinsNs mb ∧ ∀ x : Str, x ≠ "__name__" → mb x = bootBuiltins x
  nolimit : base.NoLimit

/-- the context: a def's body (or a comprehension's block) running. base: fixed through the whole law; s₀, H₀: the entry; outer: the frames whose slots others may change (a def's callers); stack: all frames that run;
   ex: iterators that were made ahead of the entry and are walked here (a comprehension's); fn: the names whose cells were made at the entry (a def: all; a comprehension's block: its own); calm: not within an except suite; pn: pins that every state bears; xe: what is wanted of an exception that leaves the code -/
structure Cx where
  prog : Program
  w : World
  K : PySem.W.Frag
  mg : Str → Option Value
  base : Heap
  A : Around
  N : List Str
  s₀ : Shared
  H₀ : Hp
  env : Env
  outer : List Env
  stack : List Env
  ex : List Addr
  fn : Str → Bool
  calm : Bool
  pn : List (Addr × Obj)
  xe : Value → Shared → Prop
/-- the callers' frames -/
def frs (l : List Env) : List Addr := l.filterMap (·.frame)
abbrev Cx.fs (X : Cx) : List Addr := frs X.outer

def Vis (sc : Scope) (x : Str) : Prop := sc.names.lookup x = some .local ∨ sc.names.lookup x = some .cell ∨ sc.names.lookup x = some .free
def Loc (sc : Scope) (x : Str) : Prop := sc.names.lookup x = some .local ∨ sc.names.lookup x = some .cell
def Look (env : Env) (h : Heap) (m : Str → Option Value) (x : Str) (u : Value) : Prop :=
  (env.kindOf x = some .local ∧ m x = some u) ∨ ((env.kindOf x = some .cell ∨ env.kindOf x = some .free) ∧ ∃ c, env.cells.lookup x = some c ∧ h.IsCell c (some u))

structure Cx.Ok (X : Cx) : Prop where
  mod : Mod X.K X.mg X.base
  kind : X.env.scope.kind = .function
  glob : X.env.globals = mainGlobals
  blt : X.env.builtins = builtinsNs
  above : X.s₀.heap.objs.size ≤ X.env.locals
  inj : ∀ x y c, X.env.cells.lookup x = some c → X.env.cells.lookup y = some c → x = y
  has : ∀ x, (X.env.kindOf x = some .cell ∨ X.env.kindOf x = some .free) → ∃ c, X.env.cells.lookup x = some c
  cab : ∀ x c, X.fn x = true → X.env.cells.lookup x = some c → X.s₀.heap.objs.size ≤ c
  hd : X.calm = true → X.A.handled = none
  frames : X.A.frames = some X.stack
  stk : X.stack = X.outer ∨ (X.stack = X.env :: X.outer ∧ X.env.frame = some X.env.locals)
  exf : ∀ b ∈ X.ex, b ≠ X.env.locals ∧ ∀ x c, X.env.cells.lookup x = some c → c ≠ b
  bs : ∀ b o, X.base.get? b = some o → X.s₀.heap.get? b = some o ∧ X.H₀ b = none
  bsz : X.base.objs.size ≤ X.s₀.heap.objs.size
  noex : ∀ b o, X.base.get? b = some o → b ∉ X.ex
  exfs : ∀ b ∈ X.ex, b ∉ X.fs
  funs : X.s₀.heap.FunFrames X.base X.outer
  frf : ∀ b ∈ X.fs, X.H₀ b = none

structure Inv (X : Cx) (pins : List (Addr × Obj)) (σ : List (Option V)) (H : Hp) (s : Shared) : Prop where
  ok : X.Ok
  os : s.os = X.s₀.os
  bare : AllBare s.gens
  base : Un X.fs X.ex X.H₀ H X.s₀.heap s.heap
  loc : ∃ m, s.heap.Ns X.env.locals m ∧ ∀ (i : Nat) (x : Str) (v : V), X.N[i]? = some x → σ[i]? = some (some v) → Vis X.env.scope x → ∃ u, RelV v u ∧ Look X.env s.heap m x u
  cell : ∀ x c, X.env.cells.lookup x = some c → ∃ v, s.heap.IsCell c v
  free : H X.env.locals = none
  freeC : ∀ x c, X.env.cells.lookup x = some c → H c = none
  pin : ∀ p ∈ X.pn ++ pins, s.heap.get? p.1 = some p.2 ∧ H p.1 = none ∧ p.1 ≠ X.env.locals ∧ p.1 ∉ X.fs ∧ ∀ v, p.2.data ≠ .cell v
  hok : HOk X.prog X.w H s.heap
  len : σ.length = X.N.length

section
variable {X : Cx} {pins : List (Addr × Obj)} {σ : List (Option V)} {H H' : Hp} {s : Shared} {h' : Heap}

theorem Cx.Ok.nofr (ok : X.Ok) {b : Addr} {o : Obj} (e : X.base.get? b = some o) : b ∉ X.fs := fun hb => by
  have := (ok.funs.mem hb).1
  rw [e] at this; cases this
theorem Inv.bs (I : Inv X pins σ H s) : ∀ b o, X.base.get? b = some o → s.heap.get? b = some o ∧ H b = none := fun b o e =>
  ⟨I.base.keep b o (I.ok.bs b o e).1 (I.ok.bs b o e).2 (I.ok.nofr e) (I.ok.noex b o e), I.base.free b o (I.ok.bs b o e).1 (I.ok.bs b o e).2 (I.ok.noex b o e)⟩
theorem Inv.bk (I : Inv X pins σ H s) : ∀ b o, X.base.get? b = some o → s.heap.get? b = some o := fun b o e => (I.bs b o e).1
theorem Inv.mod (I : Inv X pins σ H s) : Mod X.K X.mg X.base := I.ok.mod
theorem Inv.kIn (I : Inv X pins σ H s) : X.K.In s.heap := I.ok.mod.kin.keeps I.bk
theorem Inv.nolimit (I : Inv X pins σ H s) : s.heap.NoLimit := I.ok.mod.nolimit.keeps I.bk
/-- the frame over the base: for OpenK's rules (K.In X.base is I.mod.kin) -/
theorem Inv.fr (I : Inv X pins σ H s) : ∃ m, Fr X.base X.env.locals s.heap m :=
  let ⟨m, hn, _⟩ := I.loc
  ⟨m, hn, I.bk, Nat.le_trans I.ok.bsz I.ok.above⟩
theorem Inv.lt (I : Inv X pins σ H s) : X.env.locals < s.heap.objs.size := let ⟨_, hn, _⟩ := I.loc; hn.lt
theorem Inv.sz (I : Inv X pins σ H s) : X.s₀.heap.objs.size ≤ s.heap.objs.size := Nat.le_trans I.ok.above (Nat.le_of_lt I.lt)
theorem Inv.nofs (I : Inv X pins σ H s) {a : Addr} (h : s.heap.objs.size ≤ a) : a ∉ X.fs := fun hb => by
  obtain ⟨_, o, ho, _⟩ := I.ok.funs.mem hb
  exact absurd (Nat.lt_of_lt_of_le (Heap.lt_size ho) (Nat.le_trans I.sz h)) (Nat.lt_irrefl _)
theorem Inv.cne (I : Inv X pins σ H s) : ∀ x c, X.env.cells.lookup x = some c → c ≠ X.env.locals := fun x c e z => by
  obtain ⟨v, o, ho, hd⟩ := I.cell x c e
  obtain ⟨m, ⟨o', es, ep, ho', hd', _⟩, _⟩ := I.loc
  rw [z, ho'] at ho; cases ho; rw [hd'] at hd; cases hd
theorem Inv.funs (I : Inv X pins σ H s) : s.heap.FunFrames X.base X.outer := by
  have all : ∀ (l : List Env), (∀ b ∈ frs l, b ∈ X.fs) → X.s₀.heap.FunFrames X.base l → s.heap.FunFrames X.base l := by
    intro l
    induction l with
    | nil => intro _ _; trivial
    | cons env r ih =>
      intro hs hl
      obtain ⟨hk, ⟨L, o, hf, hn, ho, hd⟩, hr⟩ := hl
      have hL : L ∈ X.fs := hs L (by unfold frs; rw [List.filterMap_cons, hf]; exact List.mem_cons_self)
      obtain ⟨sl, e⟩ := I.base.slot L o ho (I.ok.frf L hL) hL fun z => I.ok.exfs L z hL
      exact ⟨hk, ⟨L, _, hf, hn, e, hd⟩, ih (fun b hb => hs b (by unfold frs; rw [List.filterMap_cons, hf]; exact List.mem_cons_of_mem _ hb)) hr⟩
  exact all X.outer (fun _ hb => hb) I.ok.funs

/-- the frames that run, for a call -/
theorem Inv.stack (I : Inv X pins σ H s) : s.heap.FunFrames X.base X.stack := by
  rcases I.ok.stk with e | ⟨e, hf⟩
  · rw [e]; exact I.funs
  · rw [e]
    obtain ⟨m, hn, _⟩ := I.loc
    refine .cons (by rw [I.ok.kind]; decide) hf hn ?_ I.funs
    exact Heap.get?_none_of_le (Nat.le_trans I.ok.bsz I.ok.above)
theorem Inv.stkSub (I : Inv X pins σ H s) : ∀ b ∈ frs X.stack, b ∈ X.env.locals :: X.fs := fun b hb => by
  rcases I.ok.stk with e | ⟨e, hf⟩
  · rw [e] at hb; exact List.mem_cons_of_mem _ hb
  · rw [e] at hb
    unfold frs at hb
    rw [List.filterMap_cons, hf] at hb
    exact hb
theorem Inv.stkFree (I : Inv X pins σ H s) : ∀ b ∈ frs X.stack, H b = none := fun b hb => by
  rcases List.mem_cons.mp (I.stkSub b hb) with e | hb
  · rw [e]; exact I.free
  · obtain ⟨_, o, ho, _⟩ := I.ok.funs.mem hb
    exact I.base.free b o ho (I.ok.frf b hb) fun z => I.ok.exfs b z hb

/-- THE STEP: the untracked objects but the frame and the records at ch are kept (the callers' frames up to slots), the frame's map is kept, the new abstract heap is held -/
theorem Inv.step {g' : Array GenState} {t' : Nat} {d' : Drawn} {ch : List Addr} (I : Inv X pins σ H s)
    (hch : ∀ b ∈ ch, (b ∈ X.ex ∨ X.s₀.heap.objs.size ≤ b) ∧ b ≠ X.env.locals ∧ (∀ x c, X.env.cells.lookup x = some c → c ≠ b) ∧ ∀ p ∈ X.pn ++ pins, p.1 ≠ b)
    (keep : ∀ b o, b ≠ X.env.locals → b ∉ X.fs → b ∉ ch → s.heap.get? b = some o → H b = none → h'.get? b = some o)
    (slot : ∀ b o, b ≠ X.env.locals → b ∈ X.fs → b ∉ ch → s.heap.get? b = some o → H b = none → ∃ sl, h'.get? b = some { o with slots := sl }) (free : ∀ b o, b ∉ ch → s.heap.get? b = some o → H b = none → H' b = none)
    (there : ∀ b o, b ∉ ch → s.heap.get? b = some o → ∃ o', h'.get? b = some o')
    (tups : ∀ b xs, H b = some (.tup xs) → H' b = some (.tup xs)) (frzs : ∀ b o u, H b = some (.frz o u) → H' b = some (.frz o u)) (tbls : ∀ b ps, H b = some (.tbl ps) → ∃ more, H' b = some (.tbl (ps ++ more)))
    (ns : ∀ m, s.heap.Ns X.env.locals m → h'.Ns X.env.locals m) (hok : HOk X.prog X.w H' h') (hg : AllBare g') :
    Inv X pins σ H' { s with heap := h', gens := g', drawn := d', toks := t' } := by
  have neL : ∀ b o, X.s₀.heap.get? b = some o → b ≠ X.env.locals := fun b o e => Nat.ne_of_lt (Nat.lt_of_lt_of_le (Heap.lt_size e) I.ok.above)
  have neC : ∀ b o, X.s₀.heap.get? b = some o → b ∉ X.ex → b ∉ ch := fun b o e hx hb => by
    rcases (hch b hb).1 with z | z
    · exact hx z
    · exact absurd (Nat.lt_of_lt_of_le (Heap.lt_size e) z) (Nat.lt_irrefl _)
  have cellK : ∀ x c, X.env.cells.lookup x = some c → ∀ v, s.heap.IsCell c v → h'.IsCell c v := fun x c e v ⟨o, ho, hd⟩ => by
    have nch : c ∉ ch := fun z => (hch c z).2.2.1 x c e rfl
    by_cases hc : c ∈ X.fs
    · obtain ⟨sl, q⟩ := slot c o (I.cne x c e) hc nch ho (I.freeC x c e)
      exact ⟨_, q, hd⟩
    · exact ⟨o, keep c o (I.cne x c e) hc nch ho (I.freeC x c e), hd⟩
  refine ⟨I.ok, I.os, hg, ⟨fun b o e n hb hx => ?_, fun b o e n hb hx => ?_, fun b o e n hx => ?_, fun b o e hx => ?_, fun b xs e => tups b xs (I.base.tups b xs e), fun b o xs e => frzs b o xs (I.base.frzs b o xs e), fun b ps e => ?_⟩, ?_, fun x c e => ?_, ?_, fun x c e => ?_, fun p hp => ?_, hok, I.len⟩
  · exact keep b o (neL b o e) hb (neC b o e hx) (I.base.keep b o e n hb hx) (I.base.free b o e n hx)
  · obtain ⟨sl, e1⟩ := I.base.slot b o e n hb hx
    obtain ⟨sl', e2⟩ := slot b _ (neL b o e) hb (neC b o e hx) e1 (I.base.free b o e n hx)
    exact ⟨sl', e2⟩
  · obtain ⟨o', e1⟩ := I.base.there b o e hx
    exact free b o' (neC b o e hx) e1 (I.base.free b o e n hx)
  · obtain ⟨o', e1⟩ := I.base.there b o e hx
    exact there b o' (neC b o e hx) e1
  · obtain ⟨m1, e1⟩ := I.base.tbls b ps e
    obtain ⟨m2, e2⟩ := tbls b _ e1
    exact ⟨m1 ++ m2, by rw [e2, Array.append_assoc]⟩
  · obtain ⟨m, hn, hl⟩ := I.loc
    refine ⟨m, ns m hn, fun i x v e1 e2 e3 => ?_⟩
    obtain ⟨u, r, l⟩ := hl i x v e1 e2 e3
    refine ⟨u, r, ?_⟩
    rcases l with l | ⟨k, c, e, z⟩
    · exact .inl l
    · exact .inr ⟨k, c, e, cellK x c e _ z⟩
  · obtain ⟨v, z⟩ := I.cell x c e
    exact ⟨v, cellK x c e v z⟩
  · obtain ⟨m, ⟨o, _, _, ho, _⟩, _⟩ := I.loc
    exact free _ o (fun z => (hch _ z).2.1 rfl) ho I.free
  · obtain ⟨v, o, ho, hd⟩ := I.cell x c e
    exact free c o (fun z => (hch c z).2.2.1 x c e rfl) ho (I.freeC x c e)
  · obtain ⟨e, n, ne, nf, d⟩ := I.pin p hp
    have nch : p.1 ∉ ch := fun z => (hch p.1 z).2.2.2 p hp rfl
    exact ⟨keep p.1 p.2 ne nf nch e n, free p.1 p.2 nch e n, ne, nf, d⟩
/-- .. where the frame's own object is kept too -/
theorem Inv.un {t' : Nat} (I : Inv X pins σ H s) (u : Un X.fs [] H H' s.heap h') (hok : HOk X.prog X.w H' h') : Inv X pins σ H' { s with heap := h', toks := t' } := by
  obtain ⟨m, ⟨o, es, ep, ho, r⟩, _⟩ := id I.loc
  obtain ⟨sl, hL⟩ := u.any ho I.free (by simp)
  exact I.step (g' := s.gens) (d' := s.drawn) (ch := []) (fun _ z => nomatch z) (fun b o _ hb _ e n => u.keep b o e n hb (by simp)) (fun b o _ hb _ e n => u.slot b o e n hb (by simp)) (fun b o _ e n => u.free b o e n (by simp)) (fun b o _ e => u.there b o e (by simp)) u.tups u.frzs u.tbls (fun m' hm => by
    obtain ⟨o', es', ep', ho', r'⟩ := hm
    rw [ho] at ho'; cases ho'
    exact ⟨_, es', ep', hL, r'⟩) hok I.bare
/-- behind a call (or a comprehension's block): the slots of this frame may have changed too, the records at ch may have turned -/
theorem Inv.call {g' : Array GenState} {t' : Nat} {d' : Drawn} {ch : List Addr} (I : Inv X pins σ H s) (u : Un (frs X.stack) ch H H' s.heap h') (hok : HOk X.prog X.w H' h') (hg : AllBare g')
    (hch : ∀ b ∈ ch, (b ∈ X.ex ∨ X.s₀.heap.objs.size ≤ b) ∧ b ≠ X.env.locals ∧ (∀ x c, X.env.cells.lookup x = some c → c ≠ b) ∧ ∀ p ∈ X.pn ++ pins, p.1 ≠ b) :
    Inv X pins σ H' { s with heap := h', gens := g', drawn := d', toks := t' } := by
  obtain ⟨m, ⟨o, es, ep, ho, r⟩, _⟩ := id I.loc
  obtain ⟨sl, hL⟩ := u.any ho I.free fun z => (hch _ z).2.1 rfl
  exact I.step (ch := ch) hch (fun b o hL hb hc e n => u.keep b o e n (fun z => (List.mem_cons.mp (I.stkSub b z)).elim hL hb) hc) (fun b o _ _ hc e n => u.any e n hc) (fun b o hc e n => u.free b o e n hc) (fun b o hc e => u.there b o e hc) u.tups u.frzs u.tbls (fun m' hm => by
    obtain ⟨o', es', ep', ho', r'⟩ := hm
    rw [ho] at ho'; cases ho'
    exact ⟨_, es', ep', hL, r'⟩) hok hg
/-- an untracked record of ours (an iterator) has turned -/
theorem Inv.turned {t' : Nat} {it : Addr} (I : Inv X pins σ H s) (k : ∀ b o, b ≠ it → s.heap.get? b = some o → h'.get? b = some o) (hn : H it = none) (hL : it ≠ X.env.locals)
    (h1 : it ∈ X.ex ∨ X.s₀.heap.objs.size ≤ it) (h2 : ∀ x c, X.env.cells.lookup x = some c → c ≠ it) (h3 : ∀ p ∈ X.pn ++ pins, p.1 ≠ it) : Inv X pins σ H { s with heap := h', toks := t' } := by
  have nit : ∀ b u, H b = some u → b ≠ it := fun b u e z => by rw [z, hn] at e; cases e
  refine I.step (g' := s.gens) (d' := s.drawn) (ch := [it]) (fun b hb => ?_) (fun b o _ _ hc e _ => k b o (fun z => hc (by simp [z])) e) (fun b o _ _ hc e _ => ⟨o.slots, k b o (fun z => hc (by simp [z])) e⟩) (fun _ _ _ _ n => n)
    (fun b o hc e => ⟨o, k b o (fun z => hc (by simp [z])) e⟩) (fun _ _ e => e) (fun _ _ _ e => e) (fun b ps e => ⟨#[], by rw [e]; simp⟩) (fun m hm => ?_) (fun b u e => ?_) I.bare
  · have e : b = it := by simpa using hb
    subst e
    exact ⟨h1, hL, h2, h3⟩
  · obtain ⟨o, es, ep, ho, r⟩ := hm
    exact ⟨o, es, ep, k _ o (Ne.symm hL) ho, r⟩
  · refine (I.hok b u e).stay (fun c v hc q => k c v ?_ q) (fun _ q => q) fun _ _ q => q
    rcases hc with z | z
    · rw [z]; exact nit b u e
    · exact nit c _ z
theorem Inv.tok (I : Inv X pins σ H s) (t : Nat) : Inv X pins σ H { s with toks := t } := I.un (h' := s.heap) (t' := t) Un.refl I.hok
/-- all objects kept -/
theorem Inv.kept {t' : Nat} (I : Inv X pins σ H s) (k : ∀ b u, s.heap.get? b = some u → h'.get? b = some u) : Inv X pins σ H { s with heap := h', toks := t' } := I.un (Un.kept k) (I.hok.kept k)
/-- a new object laid and tracked -/
theorem Inv.laid {a : Addr} {o : HO} {t' : Nat} (I : Inv X pins σ H s) (k : ∀ b u, s.heap.get? b = some u → h'.get? b = some u) (hp : s.heap.objs.size ≤ a) (new : ObjOk X.prog X.w (upd H a o) h' a o) :
    Inv X pins σ (upd H a o) { s with heap := h', toks := t' } := I.un (Un.laid k hp (I.hok.fresh hp)) (I.hok.laid k hp new)
/-- an object written -/
theorem Inv.write {x e : Addr} {o : HO} {t' : Nat} (I : Inv X pins σ H s) (mu : Mut (H x)) (he : e = x ∨ H e = some (.own x)) (k : ∀ b u, b ≠ e → s.heap.get? b = some u → h'.get? b = some u) (heo : ∃ u, h'.get? e = some u)
    (new : ObjOk X.prog X.w (upd H x o) h' x o) : Inv X pins σ (upd H x o) { s with heap := h', toks := t' } := I.un (Un.write mu he k heo) (I.hok.write mu he k heo new)
/-- forgetting slots, pins -/
theorem Inv.weak {σ' : List (Option V)} (I : Inv X pins σ H s) (hl : σ'.length = σ.length) (w : ∀ (i : Nat) v, σ'[i]? = some (some v) → σ[i]? = some (some v)) : Inv X pins σ' H s :=
  ⟨I.ok, I.os, I.bare, I.base, let ⟨m, hn, hl'⟩ := I.loc; ⟨m, hn, fun i x v e1 e2 e3 => hl' i x v e1 (w i v e2) e3⟩, I.cell, I.free, I.freeC, I.pin, I.hok, hl.trans I.len⟩
theorem Inv.pins_of {pins' : List (Addr × Obj)} (I : Inv X pins σ H s) (h : ∀ p ∈ pins', s.heap.get? p.1 = some p.2 ∧ H p.1 = none ∧ p.1 ≠ X.env.locals ∧ p.1 ∉ X.fs ∧ ∀ v, p.2.data ≠ .cell v) : Inv X pins' σ H s :=
  ⟨I.ok, I.os, I.bare, I.base, I.loc, I.cell, I.free, I.freeC, fun p hp => (List.mem_append.mp hp).elim (fun z => I.pin p (List.mem_append_left _ z)) (h p), I.hok, I.len⟩

theorem nodup_ix {N : List Str} (hN : N.Nodup) {i j : Nat} {x : Str} (a : N[i]? = some x) (b : N[j]? = some x) : i = j := by
  obtain ⟨h1, e1⟩ := List.getElem?_eq_some_iff.mp a
  obtain ⟨h2, e2⟩ := List.getElem?_eq_some_iff.mp b
  exact (List.getElem_inj hN).mp (e1.trans e2.symm)

/-- a name is stored; what changed -/
theorem store_ok2 {M : Model} {A : Around} {E : Value → Shared → Prop} {i : Nat} {x : Str} {v : V} {u : Value} {Q : Unit → Shared → Prop} (I : Inv X pins σ H s) (hN : X.N.Nodup) (hi : X.N[i]? = some x) (hx : Loc X.env.scope x) (r : RelV v u)
    (h : ∀ s', Inv X pins (σ.set i (some v)) H s' → (∃ a, Heap.SameBut a s.heap s'.heap ∧ (a = X.env.locals ∨ X.env.cells.lookup x = some a)) → Q () s') (hf : X.fn x = true ∨ X.env.scope.names.lookup x = some .local := by first | exact .inl rfl | exact .inr rfl | assumption) : wpAny M A (storeName X.env x u) Q E s := by
  obtain ⟨m, hn, hl⟩ := id I.loc
  have hcls : (X.env.scope.kind == .class || (X.env.scope.kind == .module && X.env.locals != X.env.globals)) = false := by rw [I.ok.kind]; rfl
  have hiσ : i < σ.length := by rw [I.len]; exact (List.getElem?_eq_some_iff.mp hi).1
  have cne := I.cne
  have tracked : ∀ {a : Addr} {h' : Heap}, (∃ o, s.heap.get? a = some o ∧ H a = none) → Heap.SameBut a s.heap h' → HOk X.prog X.w H h' := fun {a h'} ha hs b ob e => by
    obtain ⟨_, _, hfree⟩ := ha
    refine (I.hok b ob e).stay (fun c w' hc q => (hs.2 c ?_).trans q) (fun _ q => q) fun _ _ q => q
    rintro rfl
    rcases hc with rfl | hc
    · rw [hfree] at e; cases e
    · rw [hfree] at hc; cases hc
  rcases hx with hk | hk
  · refine wpAny_storeName_local hk hn (fun h' hn' hs => ?_) hcls
    obtain ⟨oL, _, _, hoL, _⟩ := id hn
    refine h _ ⟨I.ok, I.os, I.bare, ⟨fun b o e n hb hx => ?_, fun b o e n hb hx => ?_, I.base.free, fun b o e hx => ?_, I.base.tups, I.base.frzs, I.base.tbls⟩, ⟨_, hn', fun j y v' e1 e2 e3 => ?_⟩, fun y c e => ?_, I.free, I.freeC, fun p hp => ?_, tracked ⟨oL, hoL, I.free⟩ hs, by simpa using I.len⟩ ⟨_, hs, .inl rfl⟩
    · exact (hs.2 b (Nat.ne_of_lt (Nat.lt_of_lt_of_le (Heap.lt_size e) I.ok.above))).trans (I.base.keep b o e n hb hx)
    · obtain ⟨sl, e1⟩ := I.base.slot b o e n hb hx
      exact ⟨sl, (hs.2 b (Nat.ne_of_lt (Nat.lt_of_lt_of_le (Heap.lt_size e) I.ok.above))).trans e1⟩
    · obtain ⟨o', e1⟩ := I.base.there b o e hx
      exact ⟨o', (hs.2 b (Nat.ne_of_lt (Nat.lt_of_lt_of_le (Heap.lt_size e) I.ok.above))).trans e1⟩
    · by_cases hj : j = i
      · subst hj
        rw [hi] at e1; cases e1
        rw [List.getElem?_set_self hiσ] at e2
        cases e2
        exact ⟨u, r, .inl ⟨hk, by simp⟩⟩
      · rw [List.getElem?_set_ne (Ne.symm hj)] at e2
        obtain ⟨u', r', q⟩ := hl j y v' e1 e2 e3
        refine ⟨u', r', ?_⟩
        rcases q with ⟨k, e⟩ | ⟨k, c, e, z⟩
        · refine .inl ⟨k, ?_⟩
          have : y ≠ x := fun e => hj (nodup_ix hN e1 (e ▸ hi))
          simp [this, e]
        · exact .inr ⟨k, c, e, z.sameBut hs (cne y c e)⟩
    · obtain ⟨w', z⟩ := I.cell y c e
      exact ⟨w', z.sameBut hs (cne y c e)⟩
    · obtain ⟨e, n, ne, nf, d⟩ := I.pin p hp
      exact ⟨(hs.2 p.1 ne).trans e, n, ne, nf, d⟩
  · have hfn : X.fn x = true := by
      rcases hf with z | z
      · exact z
      · rw [z] at hk; cases hk
    obtain ⟨c, hc⟩ := I.ok.has x (.inl hk)
    obtain ⟨w', z⟩ := I.cell x c hc
    refine wpAny_storeName_cell I.ok.kind hk hc z (fun h' hc' hs => ?_)
    obtain ⟨oc, hoc, hocd⟩ := id z
    refine h { s with heap := h' } ⟨I.ok, I.os, I.bare, ⟨fun b o e n hb hx => ?_, fun b o e n hb hx => ?_, I.base.free, fun b o e hx => ?_, I.base.tups, I.base.frzs, I.base.tbls⟩, ⟨m, hn.sameBut hs (Ne.symm (cne x c hc)), fun j y v' e1 e2 e3 => ?_⟩, fun y c' e => ?_, I.free, I.freeC, fun p hp => ?_, tracked ⟨oc, hoc, I.freeC x c hc⟩ hs, by simpa using I.len⟩ ⟨c, hs, .inr hc⟩
    · exact (hs.2 b (Nat.ne_of_lt (Nat.lt_of_lt_of_le (Heap.lt_size e) (I.ok.cab x c hfn hc)))).trans (I.base.keep b o e n hb hx)
    · obtain ⟨sl, e1⟩ := I.base.slot b o e n hb hx
      exact ⟨sl, (hs.2 b (Nat.ne_of_lt (Nat.lt_of_lt_of_le (Heap.lt_size e) (I.ok.cab x c hfn hc)))).trans e1⟩
    · obtain ⟨o', e1⟩ := I.base.there b o e hx
      exact ⟨o', (hs.2 b (Nat.ne_of_lt (Nat.lt_of_lt_of_le (Heap.lt_size e) (I.ok.cab x c hfn hc)))).trans e1⟩
    · by_cases hj : j = i
      · subst hj
        rw [hi] at e1; cases e1
        rw [List.getElem?_set_self hiσ] at e2
        cases e2
        exact ⟨u, r, .inr ⟨.inl hk, c, hc, hc'⟩⟩
      · rw [List.getElem?_set_ne (Ne.symm hj)] at e2
        obtain ⟨u', r', q⟩ := hl j y v' e1 e2 e3
        refine ⟨u', r', ?_⟩
        rcases q with q | ⟨k, c', e, z'⟩
        · exact .inl q
        · refine .inr ⟨k, c', e, z'.sameBut hs ?_⟩
          rintro rfl
          exact hj (nodup_ix hN e1 (I.ok.inj _ _ _ e hc ▸ hi))
    · by_cases hcc : c' = c
      · subst hcc; exact ⟨_, hc'⟩
      · obtain ⟨w2, z2⟩ := I.cell y c' e
        exact ⟨w2, z2.sameBut hs hcc⟩
    · obtain ⟨e, n, ne, nf, d⟩ := I.pin p hp
      refine ⟨(hs.2 p.1 ?_).trans e, n, ne, nf, d⟩
      intro q
      rw [q, hoc] at e
      have q' : oc = p.2 := Option.some.inj e
      exact d w' (by rw [← q']; exact hocd)
theorem store_ok {M : Model} {A : Around} {E : Value → Shared → Prop} {i : Nat} {x : Str} {v : V} {u : Value} {Q : Unit → Shared → Prop} (I : Inv X pins σ H s) (hN : X.N.Nodup) (hi : X.N[i]? = some x) (hx : Loc X.env.scope x) (r : RelV v u)
    (h : ∀ s', Inv X pins (σ.set i (some v)) H s' → Q () s') (hf : X.fn x = true ∨ X.env.scope.names.lookup x = some .local := by first | exact .inl rfl | exact .inr rfl | assumption) : wpAny M A (storeName X.env x u) Q E s :=
  store_ok2 I hN hi hx r (fun s' I' _ => h s' I') hf
/-- behind a call or a block, the state as it is -/
theorem Inv.call' {s' : Shared} {ch : List Addr} (I : Inv X pins σ H s) (ho : s'.os = s.os) (u : Un (frs X.stack) ch H H' s.heap s'.heap) (hok : HOk X.prog X.w H' s'.heap) (hg : AllBare s'.gens)
    (hch : ∀ b ∈ ch, (b ∈ X.ex ∨ X.s₀.heap.objs.size ≤ b) ∧ b ≠ X.env.locals ∧ (∀ x c, X.env.cells.lookup x = some c → c ≠ b) ∧ ∀ p ∈ X.pn ++ pins, p.1 ≠ b) : Inv X pins σ H' s' := by
  obtain ⟨h', g', d', t', o'⟩ := s'
  have e : o' = s.os := ho
  subst e
  exact I.call (g' := g') (t' := t') (d' := d') u hok hg hch
end

/-! ### the judgements -/
/-- an exception: its class, its own dict's address (where it has one), the abstract heap behind it -/
abbrev XK := Value → Option Addr → Hp → Prop
abbrev St := List (Option V)
abbrev VK := V → Hp → Prop
/-- an expression's reading; a test's; an argument list's -/
abbrev TE := St → Hp → VK → Prop
abbrev TT := St → Hp → (Bool → Hp → Prop) → Prop
abbrev TA := St → Hp → (List V → Hp → Prop) → Prop
/-- what is wanted behind a statement -/
structure Ends where
  nx : St → Hp → Prop
  rt : VK
  bk : St → Hp → Prop := fun _ _ => False
  ct : St → Hp → Prop := fun _ _ => False
abbrev TS := Ends → St → Hp → Prop

def EP (X : Cx) (pins : List (Addr × Obj)) (σ : St) (Q : VK) (u : Value) (s' : Shared) : Prop := ∃ v H', Inv X pins σ H' s' ∧ RelV v u ∧ Q v H'
def TP (X : Cx) (pins : List (Addr × Obj)) (σ : St) (Q : Bool → Hp → Prop) (b : Bool) (s' : Shared) : Prop := ∃ H', Inv X pins σ H' s' ∧ Q b H'
def AP (X : Cx) (pins : List (Addr × Obj)) (σ : St) (Q : List V → Hp → Prop) (us : List Value) (s' : Shared) : Prop := ∃ vs H', Inv X pins σ H' s' ∧ Vals vs us ∧ Q vs H'
def SP (X : Cx) (pins : List (Addr × Obj)) (D : Ends) (f : Flow) (s' : Shared) : Prop :=
  match f with
  | .next => ∃ σ' H', Inv X pins σ' H' s' ∧ D.nx σ' H'
  | .brk => ∃ σ' H', Inv X pins σ' H' s' ∧ D.bk σ' H'
  | .cont => ∃ σ' H', Inv X pins σ' H' s' ∧ D.ct σ' H'
  | .ret u => ∃ v σ' H', Inv X pins σ' H' s' ∧ RelV v u ∧ D.rt v H'

def PE (X : Cx) (e : Expr) (t : TE) : Prop :=
  ∀ (pins : List (Addr × Obj)) (s : Shared) (σ : St) (H : Hp) (Q : VK), Inv X pins σ H s → t σ H Q → wpAny (model X.prog X.w) X.A (eval e X.env) (EP X pins σ Q) X.xe s
def PT (X : Cx) (e : Expr) (t : TT) : Prop :=
  ∀ (pins : List (Addr × Obj)) (s : Shared) (σ : St) (H : Hp) (Q : Bool → Hp → Prop), Inv X pins σ H s → t σ H Q → wpAny (model X.prog X.w) X.A (isTrue e X.env (eval e X.env)) (TP X pins σ Q) X.xe s
/-- a test whatever its 'whole' is (and, or) -/
def PW (X : Cx) (e : Expr) (t : TT) : Prop :=
  ∀ (whole : Sem Value) (pins : List (Addr × Obj)) (s : Shared) (σ : St) (H : Hp) (Q : Bool → Hp → Prop), Inv X pins σ H s → t σ H Q → wpAny (model X.prog X.w) X.A (isTrue e X.env whole) (TP X pins σ Q) X.xe s
theorem PW.pt {X : Cx} {e : Expr} {t : TT} (h : PW X e t) : PT X e t := h _
/-- an argument list (no star), from the left -/
def PA (X : Cx) (es : List Expr) (t : TA) : Prop :=
  ∀ (pos : Pos) (pins : List (Addr × Obj)) (s : Shared) (σ : St) (H : Hp) (Q : List V → Hp → Prop), Inv X pins σ H s → t σ H Q → wpAny (model X.prog X.w) X.A (spliced (backTo pos (starEach es X.env))) (AP X pins σ Q) X.xe s
def PS (X : Cx) (st : Stmt) (t : TS) : Prop :=
  ∀ (pins : List (Addr × Obj)) (s : Shared) (σ : St) (H : Hp) (D : Ends), Inv X pins σ H s → t D σ H → wpAny (model X.prog X.w) X.A (exec st X.env) (SP X pins D) X.xe s
def PSs (X : Cx) (st : List Stmt) (t : TS) : Prop :=
  ∀ (pins : List (Addr × Obj)) (s : Shared) (σ : St) (H : Hp) (D : Ends), Inv X pins σ H s → t D σ H → wpAny (model X.prog X.w) X.A (execs st X.env) (SP X pins D) X.xe s
/-- weaken the end -/
theorem thn {α : Type} {t : Sem α} {Q Q' : α → Shared → Prop} {M : Model} {A : Around} {E : Value → Shared → Prop} {s : Shared} (h : wpAny M A t Q E s) (hQ : ∀ a s, Q a s → Q' a s) : wpAny M A t Q' E s := wpAny_mono h hQ fun _ _ x => x
end L2

namespace L2
open PySem PySem.Spec PyProof.Rows
section
variable {X : Cx}

/-! ### names and constants -/
def tVar (i : Nat) : TE := fun σ H Q => ∃ v, σ[i]? = some (some v) ∧ Q v H
def tC (v : V) : TE := fun _ H Q => Q v H
theorem pe_var {i : Nat} {x : Str} {pos : Pos} (hN : X.N[i]? = some x) (hv : Vis X.env.scope x) (hd : (x == ("__debug__" : Str)) = false := by decide) (hcd : (x == ("__classdict__" : Str)) = false := by decide) : PE X (.Name x pos) (tVar i) := by
  intro pins s σ H Q I h
  obtain ⟨v, e, h⟩ := h
  obtain ⟨m, hn, hl⟩ := I.loc
  obtain ⟨u, r, l⟩ := hl i x v hN e hv
  have fin : EP X pins σ Q u s := ⟨v, H, I, r, h⟩
  rcases l with ⟨hk, hm⟩ | ⟨hk, c, hc, hcell⟩
  · exact wpAny_Name (wpAny_loadName_local I.ok.kind hk hn hm fin) hd
  · rcases hk with hk | hk
    · exact wpAny_Name (wpAny_loadName_cell I.ok.kind hk hc hcell fin) hd
    · exact wpAny_Name (wpAny_loadName_free I.ok.kind hk hc hcell fin hcd) hd
theorem pe_int {i j pos} : PE X (.Constant (.int i) j pos) (tC (.int i)) := fun _ _ _ H _ I h => wpAny_Constant_int ⟨.int i, H, I.tok _, ⟨_, rfl⟩, h⟩
theorem pe_bl {b j pos} : PE X (.Constant (.bool b) j pos) (tC (.bl b)) := fun _ _ _ H _ I h => Constant_bool ⟨.bl b, H, I, rfl, h⟩
theorem pe_non {j pos} : PE X (.Constant .none j pos) (tC .non) := fun _ _ _ H _ I h => Constant_none ⟨.non, H, I, rfl, h⟩
theorem pe_str {x j pos} : PE X (.Constant (.str x) j pos) (tC (.str x)) := fun _ _ _ H _ I h => Calls.Constant_str ⟨.str x, H, I.tok _, ⟨_, rfl⟩, h⟩

/-- a global name of the def -/
def Gl (X : Cx) (x : Str) : Prop := X.env.kindOf x = some .globalImplicit
theorem ld_glob {E : Value → Shared → Prop} {pins : List (Addr × Obj)} {s : Shared} {σ : St} {H : Hp} {x : Str} {u : Value} {pos : Pos} {Q : Value → Shared → Prop} (I : Inv X pins σ H s) (hg : Gl X x) (hm : X.mg x = some u) (h : Q u s)
    (hd : (x == ("__debug__" : Str)) = false := by decide) : wpAny (model X.prog X.w) X.A (eval (.Name x pos) X.env) Q E s :=
  Calls.Name_function_global I.ok.kind hg (Calls.loadGlobal_global (by rw [I.ok.glob]; exact I.mod.glob.keeps I.bk) hm h) hd
theorem ld_blt {E : Value → Shared → Prop} {pins : List (Addr × Obj)} {s : Shared} {σ : St} {H : Hp} {x : Str} {u : Value} {pos : Pos} {Q : Value → Shared → Prop} (I : Inv X pins σ H s) (hg : Gl X x) (hm : X.mg x = none) (hv : bootBuiltins x = some u) (h : Q u s)
    (hn : x ≠ "__name__" := by decide) (hd : (x == ("__debug__" : Str)) = false := by decide) : wpAny (model X.prog X.w) X.A (eval (.Name x pos) X.env) Q E s := by
  obtain ⟨mb, h1, h2⟩ := I.mod.blt
  exact Calls.Name_function_global I.ok.kind hg (Calls.loadGlobal_builtin (by rw [I.ok.glob]; exact I.mod.glob.keeps I.bk) hm (by rw [I.ok.blt]; exact h1.keeps I.bk) ((h2 x hn).trans hv) h) hd
/-- a module's constant, a class, a function, as a value -/
theorem pe_glob {x : Str} {v : V} {u : Value} {pos : Pos} (hg : Gl X x) (hm : X.mg x = some u) (r : RelV v u) (hd : (x == ("__debug__" : Str)) = false := by decide) : PE X (.Name x pos) (tC v) :=
  fun _ _ _ H _ I h => ld_glob I hg hm ⟨v, H, I, r, h⟩ hd
/-! ### arithmetic -/
variable {a b : Expr} {ta tb : TE} {pos : Pos}
/-! ### comparisons -/
def PC (X : Cx) (op : CmpOp) (a b : Expr) (t : TE) : Prop :=
  ∀ (pins : List (Addr × Obj)) (s : Shared) (σ : St) (H : Hp) (Q : VK), Inv X pins σ H s → t σ H Q →
    wpAny (model X.prog X.w) X.A (eval a X.env) (fun v s₁ => wpAny (model X.prog X.w) X.A (eval b X.env) (fun u s₂ => wpAny (model X.prog X.w) X.A (compareOp op v u) (EP X pins σ Q) X.xe s₂) X.xe s₁) X.xe s
theorem nobehind (b : Expr) {op : CmpOp} (h : op ≠ .In) (h2 : op ≠ .NotIn) : behindInMarks op b = false := by
  have e1 : (op == CmpOp.In) = false := by cases op <;> first | rfl | exact absurd rfl h
  have e2 : (op == CmpOp.NotIn) = false := by cases op <;> first | rfl | exact absurd rfl h2
  cases b <;> simp [behindInMarks, e1, e2]
/-- a comparison as a value, as a test -/
def tB (t : TE) : TT := fun σ H Q => t σ H fun x H1 => ∃ c, x = .bl c ∧ Q c H1
theorem pt_cmp {op : CmpOp} {t : TE} (h : PC X op a b t) (h1 : behindInMarks op b = false := by first | exact nobehind _ (by decide) (by decide) | rfl) : PT X (.Compare a [op] [b] pos) (tB t) := by
  intro pins s σ H Q I hw
  refine wpAny_isTrue_Compare1 (thn (h pins s σ H _ I hw) fun v s1 h1 => thn h1 fun u s2 h2 => thn h2 fun c s3 ⟨x, H1, I1, r1, q1⟩ => ?_) h1
  obtain ⟨d, rfl, q⟩ := q1
  cases r1
  exact wpAny_truthy_bool ⟨H1, I1, q⟩
/-- an expression whose value is a bool, as a test -/
theorem pt_val {e : Expr} {t : TE} (h : PE X e t) (he : ∀ whole, isTrue e X.env whole = (do let v ← whole; standAt e.pos; holding [v] (truthy v)) := by intro _; rfl) : PT X e (tB t) := by
  intro pins s σ H Q I hw
  refine isTrue_plain (thn (h pins s σ H _ I hw) fun v s1 ⟨x, H1, I1, r1, q1⟩ => ?_) (he _)
  obtain ⟨d, rfl, q⟩ := q1
  cases r1
  exact wpAny_truthy_bool ⟨H1, I1, q⟩

/-! ### and, or, not -/
variable {tA tB' : TT} {rest : List Expr}
def tAnd (t u : TT) : TT := fun σ H Q => t σ H fun c H1 => if c = true then u σ H1 Q else Q false H1
def tOr (t u : TT) : TT := fun σ H Q => t σ H fun c H1 => if c = true then Q true H1 else u σ H1 Q
def tNot (t : TT) : TT := fun σ H Q => t σ H fun c H1 => Q (!c) H1
theorem pw_and1 (ha : PT X a tA) : PW X (.BoolOp .And [a] pos) tA := by
  intro wh pins s σ H Q I h
  refine isTrue_and (thn (ha pins s σ H Q I h) fun c s1 e => ?_)
  cases c with
  | true => exact isTrue_and_nil e
  | false => exact e
theorem pw_or1 (ha : PT X a tA) : PW X (.BoolOp .Or [a] pos) tA := by
  intro wh pins s σ H Q I h
  refine isTrue_or (thn (ha pins s σ H Q I h) fun c s1 e => ?_)
  cases c with
  | false => exact isTrue_or_nil e
  | true => exact e
theorem pw_and (ha : PT X a tA) (hb : PW X (.BoolOp .And (b :: rest) pos) tB') : PW X (.BoolOp .And (a :: b :: rest) pos) (tAnd tA tB') := by
  intro wh pins s σ H Q I h
  refine isTrue_and (thn (ha pins s σ H _ I h) fun c s1 ⟨H1, I1, q1⟩ => ?_)
  cases c with
  | true => exact hb wh pins s1 σ H1 Q I1 q1
  | false => exact ⟨H1, I1, q1⟩
theorem pw_or (ha : PT X a tA) (hb : PW X (.BoolOp .Or (b :: rest) pos) tB') : PW X (.BoolOp .Or (a :: b :: rest) pos) (tOr tA tB') := by
  intro wh pins s σ H Q I h
  refine isTrue_or (thn (ha pins s σ H _ I h) fun c s1 ⟨H1, I1, q1⟩ => ?_)
  cases c with
  | true => exact ⟨H1, I1, q1⟩
  | false => exact hb wh pins s1 σ H1 Q I1 q1
theorem pt_not (ha : PT X a tA) : PT X (.UnaryOp .Not a pos) (tNot tA) := by
  intro pins s σ H Q I h
  exact isTrue_not (ha pins s σ H (fun c H1 => Q (!c) H1) I h)
/-- .. as values (bools) -/
def tAndV (ta tb : TE) : TE := fun σ H Q => ta σ H fun x H1 => ∃ c, x = .bl c ∧ if c = true then tb σ H1 Q else Q (.bl false) H1
theorem pe_one {op} {t : TE} (h : PE X a t) : PE X (.BoolOp op [a] pos) t := fun pins s σ H Q I hw => BoolOp_one (h pins s σ H Q I hw)
theorem pe_and (ha : PE X a ta) (hb : PE X (.BoolOp .And (b :: rest) pos) tb) : PE X (.BoolOp .And (a :: b :: rest) pos) (tAndV ta tb) := by
  intro pins s σ H Q I h
  refine BoolOp_and (thn (ha pins s σ H _ I h) fun v s1 ⟨x, H1, I1, r1, q1⟩ => ?_)
  obtain ⟨c, rfl, q1⟩ := q1
  cases r1
  refine wpAny_truthy_bool ?_
  cases c with
  | true => exact hb pins s1 σ H1 Q I1 q1
  | false => exact ⟨.bl false, H1, I1, rfl, q1⟩
/-- a if t else b -/
def tIf (t : TT) (ta tb : TE) : TE := fun σ H Q => t σ H fun c H1 => if c = true then ta σ H1 Q else tb σ H1 Q
theorem pe_ifExp {c : Expr} (hc : PT X c tA) (ha : PE X a ta) (hb : PE X b tb) : PE X (.IfExp c a b pos) (tIf tA ta tb) := by
  intro pins s σ H Q I h
  refine wpAny_IfExp (thn (hc pins s σ H _ I h) fun d s1 ⟨H1, I1, q1⟩ => ?_)
  cases d with
  | true => exact ha pins s1 σ H1 Q I1 q1
  | false => exact hb pins s1 σ H1 Q I1 q1
end
end L2

namespace L2
open PySem PySem.Spec PyProof.Rows

/-! ### a list, a tuple that is read: tracked, frozen, or an object of the module -/
def SqL (K : PySem.W.Frag) (H : Hp) (a : Addr) (xs : List V) : Prop :=
  Rd H a (.lst xs) ∨
    ∃ (o : Obj) (its : Array Value) (n : Nat), K.lookup a = some o ∧ o.cls = .type "list" ∧ o.dict = none ∧ o.data = .seq its n ∧ its.size ≤ sizeLine ∧ Vals xs its.toList
def SqT (K : PySem.W.Frag) (H : Hp) (a : Addr) (xs : List V) : Prop :=
  Rd H a (.tup xs) ∨
    ∃ (o : Obj) (its : Array Value) (n : Nat), K.lookup a = some o ∧ o.cls = .type "tuple" ∧ o.data = .seq its n ∧ its.size ≤ sizeLine ∧ Vals xs its.toList
def absV : Value → Option V
  | .none => some .non
  | .bool b => some (.bl b)
  | .int i _ => some (.int i)
  | .str x _ => some (.str x)
  | .bytes b _ => some (.byt b)
  | .float b _ => some (.flt b)
  | .ref a => some (.ref a)
  | .type n => some (.ty n)
  | _ => none
theorem RelV.abs {x : V} {u : Value} (r : RelV x u) : absV u = some x := by
  cases x with
  | non => cases r; rfl
  | bl _ => cases r; rfl
  | int _ => obtain ⟨t, rfl⟩ := r; rfl
  | str _ => obtain ⟨t, rfl⟩ := r; rfl
  | byt _ => obtain ⟨t, rfl⟩ := r; rfl
  | flt _ => obtain ⟨t, rfl⟩ := r; rfl
  | ref _ => cases r; rfl
  | ty _ => cases r; rfl
theorem RelV.inj {x y : V} {u : Value} (r : RelV x u) (q : RelV y u) : x = y := Option.some.inj (r.abs.symm.trans q.abs)
theorem Vals.inj : ∀ {xs ys : List V} {us : List Value}, Vals xs us → Vals ys us → xs = ys
  | _, _, _, .nil, .nil => rfl
  | _, _, _, .cons r t, .cons r' t' => by rw [r.inj r', Vals.inj t t']
section
variable {X : Cx} {pins : List (Addr × Obj)} {σ : St} {H : Hp} {s : Shared} {a : Addr} {xs ys : List V}
theorem SqL.of {K : PySem.W.Frag} (h : H a = some (.lst xs)) : SqL K H a xs := .inl (.inl h)
theorem SqT.of {K : PySem.W.Frag} (h : H a = some (.tup xs)) : SqT K H a xs := .inl (.inl h)
theorem Inv.list (I : Inv X pins σ H s) (h : SqL X.K H a xs) : ∃ its : List Value, Vals xs its ∧ PlainL s.heap a its.toArray ∧ xs.length ≤ sizeLine := by
  rcases h with h | ⟨o, its, n, hk, hc, hd, hs, hz, r⟩
  · obtain ⟨z, its, n, r, e⟩ := h.ok I.hok
    exact ⟨its, r, ⟨_, n, e, rfl, rfl, rfl⟩, z⟩
  · refine ⟨its.toList, r, ⟨o, n, I.kIn a o hk, hc, hd, by simpa using hs⟩, ?_⟩
    have e := r.length
    simp only [Array.length_toList] at e
    omega
theorem Inv.tuple (I : Inv X pins σ H s) (h : SqT X.K H a xs) : ∃ its : List Value, Vals xs its ∧ IsTup s.heap a its.toArray ∧ xs.length ≤ sizeLine := by
  rcases h with h | ⟨o, its, n, hk, hc, hs, hz, r⟩
  · obtain ⟨z, its, r, p⟩ := h.ok I.hok
    exact ⟨its, r, p, z⟩
  · refine ⟨its.toList, r, ⟨o, I.kIn a o hk, hc, n, by simpa using hs⟩, ?_⟩
    have e := r.length
    simp only [Array.length_toList] at e
    omega
theorem Inv.list_inj (I : Inv X pins σ H s) (h : SqL X.K H a xs) (h' : SqL X.K H a ys) : xs = ys := by
  obtain ⟨its, r, ⟨o, n, e, _, _, d⟩, _⟩ := I.list h
  obtain ⟨its', r', ⟨o', n', e', _, _, d'⟩, _⟩ := I.list h'
  rw [e] at e'; cases e'
  rw [d] at d'
  injection d' with d1 _
  have : its = its' := by simpa using congrArg Array.toList d1
  subst this
  exact r.inj r'
end

/-! ### another wish about exceptions -/
abbrev Cx.wish (X : Cx) (E : Value → Shared → Prop) : Cx := { X with xe := E }
/-- no exception leaves -/
abbrev Cx.nox (X : Cx) : Cx := X.wish fun _ _ => False
theorem Cx.Ok.wish {X : Cx} (ok : X.Ok) (E : Value → Shared → Prop) : (X.wish E).Ok :=
  ⟨ok.mod, ok.kind, ok.glob, ok.blt, ok.above, ok.inj, ok.has, ok.cab, ok.hd, ok.frames, ok.stk, ok.exf, ok.bs, ok.bsz, ok.noex, ok.exfs, ok.funs, ok.frf⟩
theorem Cx.Ok.unwish {X : Cx} {E : Value → Shared → Prop} (ok : (X.wish E).Ok) : X.Ok :=
  ⟨ok.mod, ok.kind, ok.glob, ok.blt, ok.above, ok.inj, ok.has, ok.cab, ok.hd, ok.frames, ok.stk, ok.exf, ok.bs, ok.bsz, ok.noex, ok.exfs, ok.funs, ok.frf⟩
section
variable {X : Cx} {pins : List (Addr × Obj)} {σ : St} {H : Hp} {s : Shared} {E : Value → Shared → Prop}
theorem Inv.wish (I : Inv X pins σ H s) (E : Value → Shared → Prop) : Inv (X.wish E) pins σ H s := ⟨I.ok.wish E, I.os, I.bare, I.base, I.loc, I.cell, I.free, I.freeC, I.pin, I.hok, I.len⟩
theorem Inv.unwish (I : Inv (X.wish E) pins σ H s) : Inv X pins σ H s := ⟨I.ok.unwish, I.os, I.bare, I.base, I.loc, I.cell, I.free, I.freeC, I.pin, I.hok, I.len⟩
theorem SP.unwish {D : Ends} {f : Flow} {s' : Shared} (h : SP (X.wish E) pins D f s') : SP X pins D f s' := by
  cases f with
  | next => obtain ⟨σ', H', I, q⟩ := h; exact ⟨σ', H', I.unwish, q⟩
  | brk => obtain ⟨σ', H', I, q⟩ := h; exact ⟨σ', H', I.unwish, q⟩
  | cont => obtain ⟨σ', H', I, q⟩ := h; exact ⟨σ', H', I.unwish, q⟩
  | ret u => obtain ⟨v, σ', H', I, r, q⟩ := h; exact ⟨v, σ', H', I.unwish, r, q⟩
theorem PE.nox {e : Expr} {t : TE} (h : PE X.nox e t) : PE X e t := fun pins s σ H Q I hw =>
  wpAny_mono (h pins s σ H Q (I.wish _) hw) (fun _ _ ⟨v, H', I', r, q⟩ => ⟨v, H', I'.unwish, r, q⟩) fun _ _ z => False.elim z
theorem PT.nox {e : Expr} {t : TT} (h : PT X.nox e t) : PT X e t := fun pins s σ H Q I hw =>
  wpAny_mono (h pins s σ H Q (I.wish _) hw) (fun _ _ ⟨H', I', q⟩ => ⟨H', I'.unwish, q⟩) fun _ _ z => False.elim z
theorem PSs.nox {st : List Stmt} {t : TS} (h : PSs X.nox st t) : PSs X st t := fun pins s σ H D I hw =>
  wpAny_mono (h pins s σ H D (I.wish _) hw) (fun _ _ q => q.unwish) fun _ _ z => False.elim z
end

/-! ### blocks and small statements -/
section
variable {X : Cx} {st : Stmt} {rest : List Stmt} {t u : TS} {e : Expr} {te : TE} {pos : Pos}
def tNext : TS := fun D σ H => D.nx σ H
def tSeq (t u : TS) : TS := fun D σ H => t { D with nx := u D } σ H
theorem pss_nil : PSs X [] tNext := fun _ _ σ H _ I h => wpAny_execs_nil ⟨σ, H, I, h⟩
theorem pss_cons (h1 : PS X st t) (h2 : PSs X rest u) : PSs X (st :: rest) (tSeq t u) := by
  intro pins s σ H D I h
  refine wpAny_execs_cons (thn (h1 pins s σ H { D with nx := u D } I h) fun f s1 q => ?_)
  cases f with
  | next =>
    obtain ⟨σ', H', I', q⟩ := q
    exact h2 pins s1 σ' H' D I' q
  | ret v => exact q
  | brk => exact q
  | cont => exact q
theorem pss_one (h1 : PS X st t) : PSs X [st] t := by
  intro pins s σ H D I h
  refine wpAny_execs_cons (thn (h1 pins s σ H D I h) fun f s1 q => ?_)
  cases f with
  | next => exact wpAny_execs_nil q
  | ret v => exact q
  | brk => exact q
  | cont => exact q
/-- in a def's body nothing is shown -/
theorem Inv.quiet {pins : List (Addr × Obj)} {σ : St} {H : Hp} {s : Shared} (I : Inv X pins σ H s) : interactive X.env = false := by simp [interactive, I.ok.kind]
/-- an expression whose value is dropped -/
def tDrop (te : TE) : TS := fun D σ H => te σ H fun _ H1 => D.nx σ H1
theorem ps_expr (he : PE X e te) (hs : swapsWith e none pos.line X.env = pure false := by rfl) : PS X (.Expr e pos) (tDrop te) := by
  intro pins s σ H D I h
  exact wpAny_Expr_any (thn (he pins s σ H _ I h) fun v s1 ⟨x, H1, I1, r1, q1⟩ => ⟨σ, H1, I1, q1⟩) I.quiet hs
def tRet (te : TE) : TS := fun D σ H => te σ H D.rt
theorem ps_ret (he : PE X e te) : PS X (.Return (some e) pos) (tRet te) := by
  intro pins s σ H D I h
  exact wpAny_Return_some (thn (he pins s σ H _ I h) fun v s1 ⟨x, H1, I1, r1, q1⟩ => ⟨x, σ, H1, I1, r1, q1⟩)
def tIfS (c : TT) (t u : TS) : TS := fun D σ H => c σ H fun b H1 => if b = true then t D σ H1 else u D σ H1
theorem ps_if {c : Expr} {a b : List Stmt} {tc : TT} (hc : PT X c tc) (ha : PSs X a t) (hb : PSs X b u) : PS X (.If c a b pos) (tIfS tc t u) := by
  intro pins s σ H D I h
  refine wpAny_If (thn (hc pins s σ H _ I h) fun d s1 ⟨H1, I1, q1⟩ => ?_)
  cases d with
  | true => exact ha pins s1 σ H1 D I1 q1
  | false => exact hb pins s1 σ H1 D I1 q1
/-- code that the proof never comes to -/
def tNever : TS := fun _ _ _ => False
theorem ps_never : PS X st tNever := fun _ _ _ _ _ _ h => h.elim
end

/-! ### targets -/
abbrev TG := V → St → Hp → (St → Hp → Prop) → Prop
abbrev TGs := List V → St → Hp → (St → Hp → Prop) → Prop
def PG (X : Cx) (target : Expr) (t : TG) : Prop :=
  ∀ (pins : List (Addr × Obj)) (s : Shared) (σ : St) (H : Hp) (v : V) (u : Value) (Q : St → Hp → Prop), Inv X pins σ H s → RelV v u → t v σ H Q →
    wpAny (model X.prog X.w) X.A (assign target X.env u) (fun _ s' => ∃ σ' H', Inv X pins σ' H' s' ∧ Q σ' H') X.xe s
/-- several targets, one after another -/
def PGs (X : Cx) (ts : List Expr) (t : TGs) : Prop :=
  ∀ (pins : List (Addr × Obj)) (s : Shared) (σ : St) (H : Hp) (vs : List V) (us : List Value) (Q : St → Hp → Prop), Inv X pins σ H s → Vals vs us → t vs σ H Q →
    wpAny (model X.prog X.w) X.A (assignInOrder ((assignEach ts X.env).map (·.2)) us) (fun _ s' => ∃ σ' H', Inv X pins σ' H' s' ∧ Q σ' H') X.xe s
/-- o[i] = v, by values -/
abbrev TSet := V → V → V → Hp → (Hp → Prop) → Prop
def PSet (X : Cx) (t : TSet) : Prop :=
  ∀ (pins : List (Addr × Obj)) (s : Shared) (σ : St) (H : Hp) (o i v : V) (ov iv u : Value) (Q : Hp → Prop), Inv X pins σ H s → RelV o ov → RelV i iv → RelV v u → t o i v H Q →
    wpAny (model X.prog X.w) X.A (setItem ov iv u) (fun _ s' => ∃ H', Inv X pins σ H' s' ∧ Q H') X.xe s
section
variable {X : Cx} {pos : Pos}
def gName (i : Nat) : TG := fun v σ H Q => Q (σ.set i (some v)) H
theorem pg_name {i : Nat} {x : Str} (hN : X.N.Nodup) (hi : X.N[i]? = some x) (hx : Loc X.env.scope x) (hf : X.fn x = true ∨ X.env.scope.names.lookup x = some .local := by first | exact .inl rfl | exact .inr rfl | assumption) : PG X (.Name x pos) (gName i) := by
  intro pins s σ H v u Q I r h
  exact wpAny_assign_Name (store_ok I hN hi hx r (fun s' I' => ⟨_, H, I', h⟩) hf)
def gNil : TGs := fun vs σ H Q => vs = [] ∧ Q σ H
def gCons (t : TG) (u : TGs) : TGs := fun vs σ H Q => ∃ v r, vs = v :: r ∧ t v σ H fun σ' H' => u r σ' H' Q
theorem pgs_nil : PGs X [] gNil := by
  intro pins s σ H vs us Q I r h
  obtain ⟨e, h⟩ := h
  subst e
  cases r
  exact assignInOrder_nil ⟨σ, H, I, h⟩
theorem pgs_cons {e : Expr} {es : List Expr} {t : TG} {u : TGs} (h1 : PG X e t) (h2 : PGs X es u)
    (hs : (assignEach (e :: es) X.env).map (·.2) = assign e X.env :: (assignEach es X.env).map (·.2) := by rfl) : PGs X (e :: es) (gCons t u) := by
  intro pins s σ H vs us Q I r h
  obtain ⟨v, vr, e1, h⟩ := h
  subst e1
  cases r with
  | cons r rr =>
    rw [hs]
    refine assignInOrder_cons (thn (h1 pins s σ H _ _ _ I r h) fun _ s1 ⟨σ1, H1, I1, q1⟩ => ?_)
    exact h2 pins s1 σ1 H1 _ _ Q I1 rr q1
/-- (a, b, ..) = a tuple of that length -/
def gTup (K : PySem.W.Frag) (n : Nat) (t : TGs) : TG := fun v σ H Q => ∃ a xs, v = .ref a ∧ SqT K H a xs ∧ xs.length = n ∧ t xs σ H Q
theorem pg_tup {es : List Expr} {k : Nat} {t : TGs} {n : Nat} (hc : X.calm = true) (h : PGs X es t)
    (hn : (assignEach es X.env).length = n := by rfl) (hst : (assignEach es X.env).findIdx? (·.1) = none := by rfl) : PG X (.Tuple es k pos) (gTup X.K n t) := by
  intro pins s σ H v u Q I r hw
  obtain ⟨a, xs, e1, hq, hl, hw⟩ := hw
  subst e1
  cases r
  obtain ⟨its, rv, ht, hz⟩ := I.tuple hq
  refine assign_Tuple_tuple (I.ok.hd hc) ht (by simp [hn, ← hl, rv.length]) hst fun h' hx => ?_
  have I1 : Inv X pins σ H { s with heap := h' } := I.kept (t' := s.toks) fun b o e => hx b o (Nat.ne_of_lt (Heap.lt_size e)) e
  exact h pins _ σ H xs _ Q I1 (by simpa using rv) hw
/-- o[i] = .. -/
def gSub (to ti : TE) (t : TSet) : TG := fun v σ H Q => to σ H fun o H1 => ti σ H1 fun i H2 => t o i v H2 fun H3 => Q σ H3
theorem pg_sub {o i : Expr} {to ti : TE} {t : TSet} (ho : PE X o to) (hi : PE X i ti) (hs : PSet X t)
    (ha : ∀ v, assign (.Subscript o i pos) X.env v = (do
      let ov ← holding [v] (eval o X.env)
      let iv ← holding [v, ov] (eval i X.env)
      standAt pos
      holding [v, ov, iv] (setItem ov iv v)
      release [v, ov, iv] []) := by intro _; rfl) : PG X (.Subscript o i pos) (gSub to ti t) := by
  intro pins s σ H v u Q I r h
  rw [ha]
  refine wpAny_bind (wpAny_holding (thn (ho pins s σ H _ I h) fun ov s1 ⟨x, H1, I1, r1, q1⟩ => ?_))
  refine wpAny_bind (wpAny_holding (thn (hi pins s1 σ H1 _ I1 q1) fun iv s2 ⟨y, H2, I2, r2, q2⟩ => ?_))
  refine wpAny_bind (wpAny_standAt (wpAny_bind (wpAny_holding (thn (hs pins s2 σ H2 x y v ov iv u _ I2 r1 r2 r q2) fun _ s3 ⟨H3, I3, q3⟩ => ?_))))
  exact wpAny_release ⟨σ, H3, I3, q3⟩
/-- target = value -/
def tAsg (te : TE) (g : TG) : TS := fun D σ H => te σ H fun x H1 => g x σ H1 D.nx
theorem ps_asg {tg e : Expr} {te : TE} {g : TG} (he : PE X e te) (hg : PG X tg g) (hs : swapsWithSole [tg] e pos.line X.env = pure false := by rfl) (hw : swappedStores [tg] e X.env = pure none := by rfl)
    (h1 : (assignEach [tg] X.env).map (·.2) = [assign tg X.env] := by rfl) : PS X (.Assign [tg] e pos) (tAsg te g) := by
  intro pins s σ H D I h
  refine wpAny_Assign_stores (thn (he pins s σ H _ I h) fun v s1 ⟨x, H1, I1, r1, q1⟩ => ?_) hs hw
  rw [h1]
  exact thn (hg pins s1 σ H1 x v _ I1 r1 q1) fun _ s2 q => q
/-- name = value -/
theorem ps_set {i : Nat} {x : Str} {e : Expr} {te : TE} {pos' : Pos} (hN : X.N.Nodup) (hi : X.N[i]? = some x) (hx : Loc X.env.scope x) (he : PE X e te) (hs : swapsWith e (some (.Name x pos')) pos.line X.env = pure false := by rfl) (hf : X.fn x = true ∨ X.env.scope.names.lookup x = some .local := by first | exact .inl rfl | exact .inr rfl | assumption) :
    PS X (.Assign [.Name x pos'] e pos) (tAsg te (gName i)) := by
  intro pins s σ H D I h
  refine wpAny_Assign_Name (thn (he pins s σ H _ I h) fun v s1 ⟨y, H1, I1, r1, q1⟩ => ?_) hs
  exact store_ok I1 hN hi hx r1 (fun s2 I2 => ⟨_, H1, I2, q1⟩) hf
end

/-! ### while -/
section
variable {X : Cx} {pos : Pos}
/-- the invariant W with its measure -/
def tWhile (c : TT) (tb : TS) : TS := fun D σ H => ∃ W : Nat → St → Hp → Prop, (∃ m, W m σ H) ∧ ∀ m σ H, W m σ H →
  c σ H fun b H1 => if b = true then ∃ N : St → Hp → Prop, (∀ σ' H', N σ' H' → ∃ m', m' < m ∧ W m' σ' H') ∧ tb { D with nx := N, ct := N, bk := D.nx } σ H1 else D.nx σ H1
theorem ps_while {c : Expr} {body : List Stmt} {tc : TT} {tb : TS} (hp : PassesOwn (model X.prog X.w) X.A X.env X.xe) (hc : PT X c tc) (hb : PSs X body tb) : PS X (.While c body [] pos) (tWhile tc tb) := by
  intro pins s σ H D I h
  obtain ⟨W, ⟨m0, w0⟩, turn⟩ := h
  refine wpAny_While (codeAny_whileLoop (fun n s' => ∃ σ' H', Inv X pins σ' H' s' ∧ W n σ' H') ?_ m0 ⟨σ, H, I, w0⟩)
  rintro n s1 ⟨σ1, H1, I1, w1⟩
  refine wpAny_passesOwn hp (thn (hc pins s1 σ1 H1 _ I1 (turn n σ1 H1 w1)) fun b s2 ⟨H2, I2, q2⟩ => ?_)
  cases b with
  | true =>
    obtain ⟨N, hN, q2⟩ := q2
    rw [if_pos rfl]
    refine wpAny_passesOwn hp (thn (hb pins s2 σ1 H2 _ I2 q2) fun f s3 q3 => ?_)
    cases f with
    | next =>
      obtain ⟨σ3, H3, I3, n3⟩ := q3
      obtain ⟨m', hm, w3⟩ := hN σ3 H3 n3
      exact ⟨m', hm, σ3, H3, I3, w3⟩
    | cont =>
      obtain ⟨σ3, H3, I3, n3⟩ := q3
      obtain ⟨m', hm, w3⟩ := hN σ3 H3 n3
      exact ⟨m', hm, σ3, H3, I3, w3⟩
    | brk => exact q3
    | ret v => exact q3
  | false =>
    rw [if_neg Bool.false_ne_true]
    exact wpAny_execs_nil ⟨σ1, H2, I2, q2⟩
end

/-! ### what a loop or a comprehension walks -/
/-- at turn i: it yields x (the heap may grow), or it stops -/
structure It where
  go : Nat → Hp → Prop
  yld : Nat → Hp → V → Hp → Prop
  stop : Nat → Hp → Prop
/-- the iterator's own objects may turn: they are not the frame's, not pinned, younger than the entry (or a comprehension's own) -/
def FpOk (X : Cx) (pins : List (Addr × Obj)) (H : Hp) (b : Addr) : Prop :=
  H b = none ∧ b ≠ X.env.locals ∧ b ∉ X.fs ∧ (b ∈ X.ex ∨ X.s₀.heap.objs.size ≤ b) ∧ (∀ x c, X.env.cells.lookup x = some c → c ≠ b) ∧ ∀ p ∈ X.pn ++ pins, p.1 ≠ b
theorem Inv.fpOk {X : Cx} {pins : List (Addr × Obj)} {σ : St} {H H' : Hp} {s : Shared} {b : Addr} (I : Inv X pins σ H s) (hb : s.heap.objs.size ≤ b) (hn : H' b = none) : FpOk X pins H' b := by
  refine ⟨hn, Nat.ne_of_gt (Nat.lt_of_lt_of_le I.lt hb), I.nofs hb, .inr (Nat.le_trans I.sz hb), fun x c e z => ?_, fun p hp z => ?_⟩
  · obtain ⟨v, q⟩ := I.cell x c e
    exact absurd (Nat.lt_of_lt_of_le q.lt (by rw [z]; exact hb)) (Nat.lt_irrefl _)
  · exact absurd (Nat.lt_of_lt_of_le (Heap.lt_size (I.pin p hp).1) (by rw [z]; exact hb)) (Nat.lt_irrefl _)
structure Turn (P : Program) (w : World) (K : PySem.W.Frag) (tg : Expr) (J : It) (fp : List Addr) (it : Addr) (tn : Nat → Heap → Prop) : Prop where
  mem : it ∈ fp
  obj : ∀ i h, tn i h → ∀ b ∈ fp, ∃ o, h.get? b = some o ∧ ∀ v, o.data ≠ .cell v
  keep : ∀ i h h', tn i h → (∀ b ∈ fp, ∀ o, h.get? b = some o → h'.get? b = some o) → tn i h'
  item : ∀ (X : Cx), X.prog = P → X.w = w → X.K = K → X.calm = true → ∀ (i : Nat) (pins : List (Addr × Obj)) (s : Shared) (σ : St) (H : Hp) (E : Value → Shared → Prop), Inv X pins σ H s → (∀ b ∈ fp, FpOk X pins H b) → tn i s.heap → J.go i H →
    wpAny (model P w) X.A (pyNext (.ref it)) (fun r s1 => ∃ u, r = some u ∧
      wpAny (model P w) X.A (letOwnedTupleGo tg (.ref it) u) (fun _ s2 => ∃ x H', Inv X pins σ H' s2 ∧ RelV x u ∧ J.yld i H x H' ∧ tn (i + 1) s2.heap ∧ ∀ b ∈ fp, H' b = none) E s1) E s
  done : ∀ (X : Cx), X.prog = P → X.w = w → X.K = K → X.calm = true → ∀ (i : Nat) (pins : List (Addr × Obj)) (s : Shared) (σ : St) (H : Hp) (E : Value → Shared → Prop), Inv X pins σ H s → (∀ b ∈ fp, FpOk X pins H b) → tn i s.heap → J.stop i H →
    wpAny (model P w) X.A (pyNext (.ref it)) (fun r s1 => r = none ∧ Inv X pins σ H s1) E s
  self : ∀ (A : Around) (i : Nat) (s : Shared) (Q : Value → Shared → Prop) (E : Value → Shared → Prop), tn i s.heap → Q (.ref it) s → wpAny (model P w) A (pyIter (.ref it)) Q E s
abbrev TI := St → Hp → (It → Hp → Prop) → Prop
/-- an iterator has come -/
def PIE (X : Cx) (pins : List (Addr × Obj)) (σ : St) (tg : Expr) (R : It → Hp → Prop) (itv : Value) (s2 : Shared) : Prop :=
  ∃ (it : Addr) (fp : List Addr) (tn : Nat → Heap → Prop) (J : It) (H' : Hp), itv = .ref it ∧ Inv X pins σ H' s2 ∧ Turn X.prog X.w X.K tg J fp it tn ∧ tn 0 s2.heap ∧ (∀ b ∈ fp, FpOk X pins H' b) ∧ R J H'
def PI (X : Cx) (tg iter : Expr) (wi : TI) : Prop :=
  ∀ (pins : List (Addr × Obj)) (s : Shared) (σ : St) (H : Hp) (R : It → Hp → Prop), Inv X pins σ H s → wi σ H R →
    wpAny (model X.prog X.w) X.A (eval iter X.env) (fun v s1 => wpAny (model X.prog X.w) X.A (pyIter v) (PIE X pins σ tg R) X.xe s1) X.xe s

/-- the step ahead of the store is nothing for an iterator that keeps no tuple -/
theorem go_of {M : Model} {A : Around} {E : Value → Shared → Prop} {s : Shared} {tg : Expr} {it : Addr} {u : Value} {o : Obj} {n : String} {vs : Array Value} {Q : Unit → Shared → Prop} (ho : s.heap.get? it = some o) (hc : o.cls = .type n) (hd : o.data = .fields vs)
    (hn : ["enumerate", "zip", "dict_itemiterator", "dict_reverseitemiterator", "odict_iterator", "itertools.zip_longest", "itertools.pairwise"].contains n = false) (hQ : Q () s) : wpAny M A (letOwnedTupleGo tg (.ref it) u) Q E s := by
  unfold letOwnedTupleGo
  cases tg <;> first
    | exact wpAny_pure hQ
    | (cases u <;> first
        | exact wpAny_pure hQ
        | (refine wpAny_bind (wpAny_load ho ?_)
           rw [hc, hd]
           show wpAny M A (if (["enumerate", "zip", "dict_itemiterator", "dict_reverseitemiterator", "odict_iterator", "itertools.zip_longest", "itertools.pairwise"].contains n && vs[0]? == some (rawInt _)) = true then _ else _) Q E s
           rw [if_neg (by intro h; rw [hn, Bool.false_and] at h; cases h)]
           exact wpAny_pure hQ))

/-- the list at a, as it stands at each turn (a loop may append to it) -/
def Itl (K : PySem.W.Frag) (a : Addr) : It :=
  ⟨fun i H => ∃ xs x, SqL K H a xs ∧ xs[i]? = some x, fun i H x H' => H' = H ∧ ∀ xs, SqL K H a xs → xs[i]? = some x, fun i H => ∃ xs, SqL K H a xs ∧ xs.length ≤ i⟩
/-- lo, lo + 1, .. (n of them) -/
def Itr (lo : Int) (n : Nat) : It := ⟨fun i _ => i < n, fun i H x H' => H' = H ∧ x = .int (lo + i), fun i _ => n ≤ i⟩
theorem turn_list {P : Program} {w : World} {K : PySem.W.Frag} {tg : Expr} (a it : Addr) : Turn P w K tg (Itl K a) [it] it (fun i h => h.IsListIter it a i) where
  mem := by simp
  obj := fun i h st b hb => by
    have e : b = it := by simpa using hb
    subst e
    obtain ⟨o, e, c, d⟩ := st
    exact ⟨o, e, fun v z => by rw [d] at z; cases z⟩
  keep := fun i h h' st k => st.at fun o e => k it (by simp) o e
  item := by
    intro X hP hw hK hc i pins s σ H E I hf st hg
    subst hP hw hK
    obtain ⟨xs, x, hq, hx⟩ := hg
    obtain ⟨its, rv, p, hz⟩ := I.list hq
    obtain ⟨u, hu, ru⟩ := rv.get hx
    obtain ⟨f0, f1, f2, f3, f4, f5⟩ := hf it (by simp)
    refine wpAny_pyNext_list_item st p.isList (x := u) (by simpa using hu) fun h' st' sb => ?_
    have I1 : Inv X pins σ H { s with heap := h' } := I.turned (t' := s.toks) (fun b o hb e => (sb.2 b hb).trans e) f0 f1 f3 f4 f5
    obtain ⟨o, e, c, d⟩ := id st'
    exact ⟨u, rfl, go_of (s := { s with heap := h' }) e c d (by decide) ⟨x, H, I1, ru, ⟨rfl, fun ys hy => by rw [I.list_inj hy hq]; exact hx⟩, st', fun b hb => (hf b hb).1⟩⟩
  done := by
    intro X hP hw hK hc i pins s σ H E I hf st hg
    subst hP hw hK
    obtain ⟨xs, hq, hx⟩ := hg
    obtain ⟨its, rv, p, hz⟩ := I.list hq
    obtain ⟨f0, f1, f2, f3, f4, f5⟩ := hf it (by simp)
    have hl := rv.length
    exact wpAny_pyNext_list_end (I.ok.hd hc) st p.isList (by simp; omega) fun h' eb => ⟨rfl, I.turned (t' := s.toks) (fun b o hb e => eb b o hb e) f0 f1 f3 f4 f5⟩
  self := fun _ _ _ _ _ st h => wpAny_pyIter_listiter st h
theorem turn_range {P : Program} {w : World} {K : PySem.W.Frag} {tg : Expr} (it : Addr) (lo : Int) (n : Nat) : Turn P w K tg (Itr lo n) [it] it (fun i h => IsRangeIter h it (lo + (i : Nat) * 1) ((n : Int) - (i : Nat)) 1) where
  mem := by simp
  obj := fun i h st b hb => by
    have e : b = it := by simpa using hb
    subst e
    exact ⟨_, st, fun v z => by
      have z' : Data.fields _ = Data.cell v := z
      cases z'⟩
  keep := fun i h h' st k => k it (by simp) _ st
  item := by
    intro X hP hw hK hc i pins s σ H E I hf st hg
    subst hP hw hK
    obtain ⟨f0, f1, f2, f3, f4, f5⟩ := hf it (by simp)
    have W := Walks.range (prog := X.prog) (w := X.w) (I.ok.hd hc) it lo 1 n
    refine W.item i s _ _ hg st fun v h' tk hv st' kk => ?_
    obtain ⟨t, rfl⟩ := hv
    have I1 : Inv X pins σ H { s with heap := h', toks := tk } := I.turned (fun b o hb e => kk b o (by simpa using hb) e) f0 f1 f3 f4 f5
    refine ⟨_, rfl, go_of (s := { s with heap := h', toks := tk }) (n := "range_iterator") st' rfl rfl (by decide) ⟨.int (lo + i), H, I1, ⟨t, ?_⟩, ⟨rfl, rfl⟩, st', fun b hb => (hf b hb).1⟩⟩
    rw [Int.mul_one]
  done := by
    intro X hP hw hK hc i pins s σ H E I hf st hg
    subst hP hw hK
    obtain ⟨f0, f1, f2, f3, f4, f5⟩ := hf it (by simp)
    exact wpAny_pyNext_range_end (I.ok.hd hc) st (by have : n ≤ i := hg; omega) fun h' eb => ⟨rfl, I.turned (t' := s.toks) (fun b o hb e => eb b o hb e) f0 f1 f3 f4 f5⟩
  self := fun _ _ _ _ _ st h => wpAny_pyIter_rangeiter st h
end L2

namespace L2
open PySem PySem.Spec PyProof.Rows
section
variable {X : Cx} {tg : Expr}
def iList (K : PySem.W.Frag) (tl : TE) : TI := fun σ H R => tl σ H fun x H1 => ∃ a, x = .ref a ∧ (∃ xs, SqL K H1 a xs) ∧ R (Itl K a) H1
theorem pi_list {l : Expr} {tl : TE} (hl : PE X l tl) : PI X tg l (iList X.K tl) := by
  intro pins s σ H R I h
  refine thn (hl pins s σ H _ I h) fun v s1 ⟨x, H1, I1, r1, q1⟩ => ?_
  obtain ⟨a, e, ⟨xs, hq⟩, q⟩ := q1
  subst e
  cases r1
  obtain ⟨its, rv, p, hz⟩ := I1.list hq
  refine wpAny_pyIter_list p.isList ?_
  refine ⟨s1.heap.objs.size, [s1.heap.objs.size], _, _, H1, rfl, I1.kept (t' := s1.toks) fun b o e => Heap.get?_push_of_some _ e, turn_list a _, ⟨_, Heap.get?_push_size _ rfl, rfl, rfl⟩, fun b hb => ?_, q⟩
  have e : b = s1.heap.objs.size := by simpa using hb
  subst e
  exact I1.fpOk (Nat.le_refl _) (I1.hok.fresh (Nat.le_refl _))
/-- a range object just made, walked -/
theorem range_it {pins : List (Addr × Obj)} {σ : St} {H : Hp} {s : Shared} {R : It → Hp → Prop} {E : Value → Shared → Prop} {lo hi : Int} {t u v : Tok} {tk : Nat} (I : Inv X pins σ H s) (h1 : -(2 ^ 62) ≤ lo) (h2 : lo < 2 ^ 62) (h3 : -(2 ^ 62) ≤ hi) (h4 : hi < 2 ^ 62)
    (q : R (Itr lo (hi - lo).toNat) H) : wpAny (model X.prog X.w) X.A (pyIter (.ref s.heap.objs.size)) (PIE X pins σ tg R) E { s with heap := s.heap.push { cls := .type "range", data := .fields #[.int lo t, .int hi u, .int 1 v] }, toks := tk } := by
  refine wpAny_pyIter_range (IsRange.new ..) (small_one h1 h2 h3 h4) ?_
  have I1 : Inv X pins σ H { s with heap := s.heap.push { cls := .type "range", data := .fields #[.int lo t, .int hi u, .int 1 v] }, toks := tk } := I.kept fun b o e => Heap.get?_push_of_some _ e
  refine ⟨(s.heap.push { cls := .type "range", data := .fields #[.int lo t, .int hi u, .int 1 v] }).objs.size, [(s.heap.push { cls := .type "range", data := .fields #[.int lo t, .int hi u, .int 1 v] }).objs.size], _, _, H, rfl,
    I1.kept (t' := tk) fun b o e => Heap.get?_push_of_some _ e, turn_range _ lo (hi - lo).toNat, ?_, fun b hb => ?_, q⟩
  · have e1 : lo + ((0 : Nat) : Int) * 1 = lo := by simp
    have e2 : (((hi - lo).toNat : Nat) : Int) - ((0 : Nat) : Int) = Builtin.Range.rangeSize lo hi 1 := by rw [rangeSize_one]; split <;> omega
    show IsRangeIter _ _ (lo + ((0 : Nat) : Int) * 1) ((((hi - lo).toNat : Nat) : Int) - ((0 : Nat) : Int)) 1
    rw [e1, e2]
    exact Heap.get?_push_size _ rfl
  · have e : b = (s.heap.push { cls := .type "range", data := .fields #[.int lo t, .int hi u, .int 1 v] }).objs.size := by simpa using hb
    subst e
    exact I1.fpOk (Nat.le_refl _) (I1.hok.fresh (Nat.le_refl _))
def iRng1 (ta : TA) : TI := fun σ H R => ta σ H fun vs H1 => ∃ j : Int, vs = [.int j] ∧ -(2 ^ 62) ≤ j ∧ j < 2 ^ 62 ∧ R (Itr 0 j.toNat) H1
def iRng2 (ta : TA) : TI := fun σ H R => ta σ H fun vs H1 => ∃ i j : Int, vs = [.int i, .int j] ∧ (-(2 ^ 62) ≤ i ∧ i < 2 ^ 62 ∧ -(2 ^ 62) ≤ j ∧ j < 2 ^ 62) ∧ R (Itr i (j - i).toNat) H1
theorem pi_range1 {a : Expr} {ta : TA} {p pos : Pos} (hg : Gl X "range") (hm : X.mg "range" = none) (ha : PA X [a] ta) (hs : starEach [a] X.env = [(false, eval a X.env)] := by rfl) : PI X tg (.Call (.Name "range" p) [a] [] pos) (iRng1 ta) := by
  intro pins s σ H R I h
  refine Call_ (ld_blt I hg hm boot_range (PyProof.Rows.callWith_type1 (thn (ha pos pins s σ H _ I h) fun us s1 ⟨vs, H1, I1, r1, q1⟩ => ?_) hs rfl))
  obtain ⟨j, e, q1, q2, q⟩ := q1
  subst e
  cases r1 with
  | cons r rr =>
    cases rr
    obtain ⟨t, rfl⟩ := r
    exact call_range_1 (range_it I1 (by omega) (by omega) q1 q2 (by simpa using q))
theorem pi_range2 {a b : Expr} {ta : TA} {p pos : Pos} (hg : Gl X "range") (hm : X.mg "range" = none) (ha : PA X [a, b] ta) (hs : starEach [a, b] X.env = [(false, eval a X.env), (false, eval b X.env)] := by rfl) (hs2 : starEach [b] X.env = [(false, eval b X.env)] := by rfl) :
    PI X tg (.Call (.Name "range" p) [a, b] [] pos) (iRng2 ta) := by
  intro pins s σ H R I h
  refine Call_ (ld_blt I hg hm boot_range (PyProof.Rows.callWith_type1 (thn (ha pos pins s σ H _ I h) fun us s1 ⟨vs, H1, I1, r1, q1⟩ => ?_) (by rw [hs, hs2]) (by rw [hs2]; rfl)))
  obtain ⟨i, j, e, ⟨q1, q2, q3, q4⟩, q⟩ := q1
  subst e
  cases r1 with
  | cons r rr =>
    cases rr with
    | cons r' rr =>
      cases rr
      obtain ⟨t, rfl⟩ := r
      obtain ⟨t', rfl⟩ := r'
      exact call_range_2 (range_it I1 q1 q2 q3 q4 q)

/-! ### for -/
/-- W: the invariant by the turn and a measure; N: what the body is to reach -/
def tFor (wi : TI) (g : TG) (tb : TS) : TS := fun D σ H => wi σ H fun J H1 => ∃ W : Nat → Nat → St → Hp → Prop, (∃ m, W 0 m σ H1) ∧ ∀ i m σ H, W i m σ H →
  (J.stop i H ∧ D.nx σ H) ∨ (J.go i H ∧ ∃ N : St → Hp → Prop, (∀ σ' H', N σ' H' → ∃ m', m' < m ∧ W (i + 1) m' σ' H') ∧ ∀ x H', J.yld i H x H' → g x σ H' fun σ2 H2 => tb { D with nx := N, ct := N, bk := D.nx } σ2 H2)
/-- the records at fp as they stand -/
def pinsAt (fp : List Addr) (h : Heap) : List (Addr × Obj) := fp.filterMap fun b => (h.get? b).map fun o => (b, o)
theorem mem_pinsAt {fp : List Addr} {h : Heap} {b : Addr} {o : Obj} (hb : b ∈ fp) (e : h.get? b = some o) : (b, o) ∈ pinsAt fp h := List.mem_filterMap.mpr ⟨b, hb, by rw [e]; rfl⟩
theorem of_pinsAt {fp : List Addr} {h : Heap} {p : Addr × Obj} (hp : p ∈ pinsAt fp h) : p.1 ∈ fp ∧ h.get? p.1 = some p.2 := by
  obtain ⟨b, hb, e⟩ := List.mem_filterMap.mp hp
  cases q : h.get? b with
  | none => rw [q] at e; cases e
  | some o =>
    rw [q] at e
    have e' : (b, o) = p := Option.some.inj e
    subst e'
    exact ⟨hb, q⟩
theorem Inv.pinned {pins : List (Addr × Obj)} {σ : St} {H : Hp} {s : Shared} {fp : List Addr} (I : Inv X pins σ H s) (hf : ∀ b ∈ fp, FpOk X pins H b) (ho : ∀ b ∈ fp, ∃ o, s.heap.get? b = some o ∧ ∀ v, o.data ≠ .cell v) : Inv X (pins ++ pinsAt fp s.heap) σ H s :=
  I.pins_of fun p hp => (List.mem_append.mp hp).elim (fun z => I.pin p (List.mem_append_right _ z)) fun z => by
    obtain ⟨hb, e⟩ := of_pinsAt z
    obtain ⟨f0, f1, f2, _⟩ := hf p.1 hb
    obtain ⟨o, e', d⟩ := ho p.1 hb
    rw [e] at e'; cases e'
    exact ⟨e, f0, f1, f2, d⟩
theorem Inv.unpinned {pins pl : List (Addr × Obj)} {σ : St} {H : Hp} {s : Shared} (I : Inv X (pins ++ pl) σ H s) : Inv X pins σ H s := I.pins_of fun p hp => I.pin p (List.mem_append_right _ (List.mem_append_left _ hp))
theorem ps_for {iter : Expr} {body : List Stmt} {wi : TI} {g : TG} {tb : TS} {pos : Pos} (hp : PassesOwn (model X.prog X.w) X.A X.env X.xe) (hc : X.calm = true) (hi : PI X tg iter wi) (hg : PG X tg g) (hb : PSs X body tb)
    (hs : ∀ x, foldedSetIterable iter X.env x = pure x := by intro _; rfl) : PS X (.For tg iter body [] pos) (tFor wi g tb) := by
  intro pins s σ H D I h
  refine wpAny_For (thn (hi pins s σ H _ I h) fun v s1 h1 => thn h1 fun itv s2 h2 => ?_) hs
  obtain ⟨it, fp, tn, J, H2, e, I2, T, st2, f2, W, ⟨m0, w0⟩, turn⟩ := h2
  subst e
  -- what stays true of the iterator's objects through the loop
  have stat : ∀ {H' : Hp}, (∀ b ∈ fp, H' b = none) → ∀ b ∈ fp, FpOk X pins H' b := fun hn b hb => ⟨hn b hb, (f2 b hb).2⟩
  refine codeAny_forLoop_any (fun n s' => ∃ i σ' H', Inv X pins σ' H' s' ∧ tn i s'.heap ∧ (∀ b ∈ fp, H' b = none) ∧ W i n σ' H') ?_ m0 ⟨0, σ, H2, I2, st2, fun b hb => (f2 b hb).1, w0⟩
  rintro n s3 ⟨i, σ3, H3, I3, st3, fr3, w3⟩
  rcases turn i n σ3 H3 w3 with ⟨stop, qn⟩ | ⟨go, N, hN, step⟩
  · refine wpAny_passesOwn hp (thn (T.done X rfl rfl rfl hc i pins s3 σ3 H3 X.xe I3 (stat fr3) st3 stop) fun r s4 ⟨hr, I4⟩ => ?_)
    subst hr
    exact wpAny_execs_nil ⟨σ3, H3, I4, qn⟩
  · refine wpAny_passesOwn hp (thn (T.item X rfl rfl rfl hc i pins s3 σ3 H3 X.xe I3 (stat fr3) st3 go) fun r s4 ⟨u, hr, h4⟩ => ?_)
    subst hr
    refine wpAny_passesOwn hp (thn h4 fun _ s5 ⟨x, H5, I5, r5, y5, st5, fr5⟩ => ?_)
    have I5' := I5.pinned (stat fr5) (T.obj _ _ st5)
    refine wpAny_passesOwn hp (thn (hg _ s5 σ3 H5 x u _ I5' r5 (step x H5 y5)) fun _ s6 ⟨σ6, H6, I6, q6⟩ => ?_)
    refine wpAny_passesOwn hp (thn (hb _ s6 σ6 H6 _ I6 q6) fun f s7 q7 => ?_)
    have again : ∀ {σ7 : St} {H7 : Hp}, Inv X (pins ++ pinsAt fp s5.heap) σ7 H7 s7 → N σ7 H7 → ∃ m, m < n ∧ ∃ i σ' H', Inv X pins σ' H' s7 ∧ tn i s7.heap ∧ (∀ b ∈ fp, H' b = none) ∧ W i m σ' H' := fun {σ7 H7} I7 n7 => by
      obtain ⟨m', hm, w7⟩ := hN σ7 H7 n7
      refine ⟨m', hm, i + 1, σ7, H7, I7.unpinned, T.keep _ _ _ st5 fun b hb o e => (I7.pin (b, o) (List.mem_append_right _ (List.mem_append_right _ (mem_pinsAt hb e)))).1, fun b hb => ?_, w7⟩
      obtain ⟨o, e, d⟩ := T.obj _ _ st5 b hb
      exact (I7.pin (b, o) (List.mem_append_right _ (List.mem_append_right _ (mem_pinsAt hb e)))).2.1
    cases f with
    | next => obtain ⟨σ7, H7, I7, n7⟩ := q7; exact again I7 n7
    | cont => obtain ⟨σ7, H7, I7, n7⟩ := q7; exact again I7 n7
    | brk => obtain ⟨σ7, H7, I7, q7⟩ := q7; exact ⟨σ7, H7, I7.unpinned, q7⟩
    | ret v => obtain ⟨x7, σ7, H7, I7, r7, q7⟩ := q7; exact ⟨x7, σ7, H7, I7.unpinned, r7, q7⟩
end

/-! ### the forms one uses -/
/-- over a list that the body leaves as it is -/
theorem for_list {K : PySem.W.Frag} {a : Addr} {xs : List V} {g : TG} {tb : TS} {D : Ends} {σ : St} {H : Hp} (Pv : Nat → St → Hp → Prop) (h0 : Pv 0 σ H) (hl : ∀ i σ H, i ≤ xs.length → Pv i σ H → SqL K H a xs)
    (hs : ∀ i x σ H, xs[i]? = some x → Pv i σ H → g x σ H fun σ2 H2 => tb { D with nx := Pv (i + 1), ct := Pv (i + 1), bk := D.nx } σ2 H2) (hd : ∀ σ H, Pv xs.length σ H → D.nx σ H) :
    ∃ W : Nat → Nat → St → Hp → Prop, (∃ m, W 0 m σ H) ∧ ∀ i m σ H, W i m σ H →
      ((Itl K a).stop i H ∧ D.nx σ H) ∨ ((Itl K a).go i H ∧ ∃ N : St → Hp → Prop, (∀ σ' H', N σ' H' → ∃ m', m' < m ∧ W (i + 1) m' σ' H') ∧ ∀ x H', (Itl K a).yld i H x H' → g x σ H' fun σ2 H2 => tb { D with nx := N, ct := N, bk := D.nx } σ2 H2) := by
  refine ⟨fun i m σ H => m = xs.length - i ∧ i ≤ xs.length ∧ Pv i σ H, ⟨xs.length, by simp, Nat.zero_le _, h0⟩, ?_⟩
  rintro i m σ H ⟨rfl, hi, p⟩
  have q := hl i σ H hi p
  by_cases hlt : i < xs.length
  · refine .inr ⟨⟨xs, xs[i], q, by simp [hlt]⟩, Pv (i + 1), fun σ' H' p' => ⟨xs.length - (i + 1), by omega, rfl, hlt, p'⟩, fun x H' y => ?_⟩
    obtain ⟨e, y⟩ := y
    subst e
    exact hs i x σ _ (y xs q) p
  · have e : i = xs.length := by omega
    subst e
    exact .inl ⟨⟨xs, q, Nat.le_refl _⟩, hd σ H p⟩
theorem for_range {lo : Int} {n : Nat} {g : TG} {tb : TS} {D : Ends} {σ : St} {H : Hp} (Pv : Nat → St → Hp → Prop) (h0 : Pv 0 σ H)
    (hs : ∀ i σ H, i < n → Pv i σ H → g (.int (lo + i)) σ H fun σ2 H2 => tb { D with nx := Pv (i + 1), ct := Pv (i + 1), bk := D.nx } σ2 H2) (hd : ∀ σ H, Pv n σ H → D.nx σ H) :
    ∃ W : Nat → Nat → St → Hp → Prop, (∃ m, W 0 m σ H) ∧ ∀ i m σ H, W i m σ H →
      ((Itr lo n).stop i H ∧ D.nx σ H) ∨ ((Itr lo n).go i H ∧ ∃ N : St → Hp → Prop, (∀ σ' H', N σ' H' → ∃ m', m' < m ∧ W (i + 1) m' σ' H') ∧ ∀ x H', (Itr lo n).yld i H x H' → g x σ H' fun σ2 H2 => tb { D with nx := N, ct := N, bk := D.nx } σ2 H2) := by
  refine ⟨fun i m σ H => m = n - i ∧ i ≤ n ∧ Pv i σ H, ⟨n, by simp, Nat.zero_le _, h0⟩, ?_⟩
  rintro i m σ H ⟨rfl, hi, p⟩
  by_cases hlt : i < n
  · refine .inr ⟨hlt, Pv (i + 1), fun σ' H' p' => ⟨n - (i + 1), by omega, rfl, hlt, p'⟩, fun x H' y => ?_⟩
    obtain ⟨e, y⟩ := y
    subst e y
    exact hs i σ _ hlt p
  · have e : i = n := by omega
    subst e
    exact .inl ⟨Nat.le_refl _, hd σ H p⟩
end L2

namespace L2
open PySem PySem.Spec PyProof.Rows

abbrev R2 := V → V → Hp → VK → Prop
/-- a two-place operation on values: f is binaryOp op, inplaceOp op or compareOp op -/
def OpR (X : Cx) (f : Value → Value → Sem Value) (r : R2) : Prop :=
  ∀ (pins : List (Addr × Obj)) (s : Shared) (σ : St) (H : Hp) (x y : V) (v u : Value) (Q : VK), Inv X pins σ H s → RelV x v → RelV y u → r x y H Q →
    wpAny (model X.prog X.w) X.A (f v u) (EP X pins σ Q) X.xe s
/-- a one-place operation -/
def UnR (X : Cx) (f : Value → Sem Value) (r : V → Hp → VK → Prop) : Prop :=
  ∀ (pins : List (Addr × Obj)) (s : Shared) (σ : St) (H : Hp) (x : V) (v : Value) (Q : VK), Inv X pins σ H s → RelV x v → r x H Q →
    wpAny (model X.prog X.w) X.A (f v) (EP X pins σ Q) X.xe s
/-- a call of a value that is known (a builtin, a type) with values -/
def CallR (X : Cx) (f : Value) (r : List V → Hp → VK → Prop) : Prop :=
  ∀ (pins : List (Addr × Obj)) (s : Shared) (σ : St) (H : Hp) (xs : List V) (us : List Value) (Q : VK), Inv X pins σ H s → Vals xs us → r xs H Q →
    wpAny (model X.prog X.w) X.A (call f us) (EP X pins σ Q) X.xe s
def tOp (r : R2) (ta tb : TE) : TE := fun σ H Q => ta σ H fun x H1 => tb σ H1 fun y H2 => r x y H2 Q
def tUn (r : V → Hp → VK → Prop) (ta : TE) : TE := fun σ H Q => ta σ H fun x H1 => r x H1 Q
/-- ints in, under C, and a value out -/
def rI (C : Int → Int → Prop) (g : Int → Int → V) : R2 := fun x y H Q => ∃ i j, x = .int i ∧ y = .int j ∧ C i j ∧ Q (g i j) H
def rI0 (g : Int → Int → V) : R2 := fun x y H Q => ∃ i j, x = .int i ∧ y = .int j ∧ Q (g i j) H
def rU (g : Int → V) : V → Hp → VK → Prop := fun x H Q => ∃ i, x = .int i ∧ Q (g i) H

section
variable {X : Cx} {a b c : Expr} {ta tb tc : TE} {pos : Pos}

theorem binT (ha : PE X a ta) (hb : PE X b tb) {pins : List (Addr × Obj)} {s : Shared} {σ : St} {H : Hp} {R : V → V → Hp → Prop} (I : Inv X pins σ H s)
    (h : ta σ H fun x H1 => tb σ H1 fun y H2 => R x y H2) {Q : Value → Shared → Prop} {f : Value → Value → Sem Value}
    (hf : ∀ v u s2 x y H2, Inv X pins σ H2 s2 → RelV x v → RelV y u → R x y H2 → wpAny (model X.prog X.w) X.A (f v u) Q X.xe s2) :
    wpAny (model X.prog X.w) X.A (eval a X.env) (fun v s₁ => wpAny (model X.prog X.w) X.A (eval b X.env) (fun u s₂ => wpAny (model X.prog X.w) X.A (f v u) Q X.xe s₂) X.xe s₁) X.xe s := by
  refine thn (ha pins s σ H _ I h) fun v s1 ⟨x, H1, I1, r1, q1⟩ => ?_
  refine thn (hb pins s1 σ H1 _ I1 q1) fun u s2 ⟨y, H2, I2, r2, q2⟩ => ?_
  exact hf v u s2 x y H2 I2 r1 r2 q2

theorem pe_op {op : Operator} {r : R2} (ho : OpR X (binaryOp op) r) (ha : PE X a ta) (hb : PE X b tb) : PE X (.BinOp a op b pos) (tOp r ta tb) := by
  intro pins s σ H Q I h
  exact wpAny_BinOp (binT ha hb I h fun v u s2 x y H2 I2 rx ry q => ho pins s2 σ H2 x y v u Q I2 rx ry q)
theorem pe_un {op : UnaryOp} {r : V → Hp → VK → Prop} (ho : UnR X (unaryOp op) r) (ha : PE X a ta) : PE X (.UnaryOp op a pos) (tUn r ta) := by
  intro pins s σ H Q I h
  exact UnaryOp_ (thn (ha pins s σ H _ I h) fun v s1 ⟨x, H1, I1, r1, q1⟩ => ho pins s1 σ H1 x v Q I1 r1 q1)
/-! ### ints -/
theorem opI {f : Value → Value → Sem Value} {C : Int → Int → Prop} {g : Int → Int → Int}
    (rule : ∀ (i j : Int) (t u : Tok) (s : Shared) (Q : Value → Shared → Prop) (E : Value → Shared → Prop), C i j → Q (.int (g i j) s.toks) { s with toks := s.toks + 1 } → wpAny (model X.prog X.w) X.A (f (.int i t) (.int j u)) Q E s) :
    OpR X f (rI C fun i j => .int (g i j)) := by
  intro pins s σ H x y v u Q I rx ry h
  obtain ⟨i, j, rfl, rfl, hc, q⟩ := h
  obtain ⟨t, rfl⟩ := rx
  obtain ⟨t', rfl⟩ := ry
  exact rule i j t t' s _ _ hc ⟨.int (g i j), H, I.tok _, ⟨_, rfl⟩, q⟩
theorem opI0 {f : Value → Value → Sem Value} {g : Int → Int → Int}
    (rule : ∀ (i j : Int) (t u : Tok) (s : Shared) (Q : Value → Shared → Prop) (E : Value → Shared → Prop), Q (.int (g i j) s.toks) { s with toks := s.toks + 1 } → wpAny (model X.prog X.w) X.A (f (.int i t) (.int j u)) Q E s) :
    OpR X f (rI0 fun i j => .int (g i j)) := by
  intro pins s σ H x y v u Q I rx ry h
  obtain ⟨i, j, rfl, rfl, q⟩ := h
  obtain ⟨t, rfl⟩ := rx
  obtain ⟨t', rfl⟩ := ry
  exact rule i j t t' s _ _ ⟨.int (g i j), H, I.tok _, ⟨_, rfl⟩, q⟩
theorem opB0 {f : Value → Value → Sem Value} {g : Int → Int → Bool}
    (rule : ∀ (i j : Int) (t u : Tok) (s : Shared) (Q : Value → Shared → Prop) (E : Value → Shared → Prop), Q (.bool (g i j)) s → wpAny (model X.prog X.w) X.A (f (.int i t) (.int j u)) Q E s) :
    OpR X f (rI0 fun i j => .bl (g i j)) := by
  intro pins s σ H x y v u Q I rx ry h
  obtain ⟨i, j, rfl, rfl, q⟩ := h
  obtain ⟨t, rfl⟩ := rx
  obtain ⟨t', rfl⟩ := ry
  exact rule i j t t' s _ _ ⟨.bl (g i j), H, I, rfl, q⟩

def CDiv (i j : Int) : Prop := 0 < j ∧ j < 1073741824
def CPow (i j : Int) : Prop := 0 ≤ j ∧ j ≤ 1000000 ∧ i.natAbs < 2 ^ 64
def CMul (i j : Int) : Prop := (-(2 ^ 64) < i ∧ i < 2 ^ 64) ∨ (-(2 ^ 64) < j ∧ j < 2 ^ 64)
theorem CMul.ok {i j : Int} (h : CMul i j) : IntMulOk i j := by
  rcases h with ⟨h1, h2⟩ | ⟨h1, h2⟩
  · exact .of_left (intBits_le_64 h1 h2)
  · exact .of_right (intBits_le_64 h1 h2)
theorem two_pow_nn (k : Nat) : (0 : Int) ≤ 2 ^ k := by
  rw [two_pow_cast]
  exact Int.natCast_nonneg _

theorem op_add : OpR X (binaryOp .Add) (rI0 fun i j => .int (i + j)) := opI0 fun _ _ _ _ _ _ _ q => add_int q
theorem op_sub : OpR X (binaryOp .Sub) (rI0 fun i j => .int (i - j)) := opI0 fun _ _ _ _ _ _ _ q => sub_int q
theorem op_mul : OpR X (binaryOp .Mult) (rI CMul fun i j => .int (i * j)) := opI fun _ _ _ _ _ _ _ hc q => mul_int q hc.ok
/-- // by a positive divisor -/
theorem op_fdiv : OpR X (binaryOp .FloorDiv) (rI CDiv fun i j => .int (i / j)) := opI fun i j _ _ _ _ _ hc q => by
  have h1 : (0 : Int) < j := hc.1
  have h2 : j < 1073741824 := hc.2
  exact floordiv_int (by omega) (by rw [Int.fdiv_eq_ediv_of_nonneg i (by omega)]; exact q) (.inl (PyProof.noPylong_small (by omega)))
/-- % by a positive divisor of any size -/
theorem op_mod : OpR X (binaryOp .Mod) (rI (fun _ j => 0 < j) fun i j => .int (i % j)) := opI fun i j _ _ _ _ _ hc q => by
  have h1 : (0 : Int) < j := hc
  exact mod_int' (by omega) (by rw [Int.fmod_eq_emod_of_nonneg i (by omega)]; exact q)
theorem op_shl : OpR X (binaryOp .LShift) (rI CPow fun i j => .int (i * 2 ^ j.toNat)) := opI fun _ _ _ _ _ _ _ hc q => lshift_int_small hc.1 hc.2.1 hc.2.2 q
theorem op_shr : OpR X (binaryOp .RShift) (rI (fun _ j => 0 ≤ j) fun i j => .int (i / 2 ^ j.toNat)) := opI fun i j _ _ _ _ _ hc q =>
  rshift_int hc (by rw [Int.fdiv_eq_ediv_of_nonneg i (two_pow_nn _)]; exact q)
theorem op_and : OpR X (binaryOp .BitAnd) (rI0 fun i j => .int (Builtin.bitAnd i j)) := opI0 fun _ _ _ _ _ _ _ q => and_int q
theorem op_or : OpR X (binaryOp .BitOr) (rI0 fun i j => .int (Builtin.bitOr i j)) := opI0 fun _ _ _ _ _ _ _ q => or_int q
theorem unI {f : Value → Sem Value} {g : Int → Int}
    (rule : ∀ (i : Int) (t : Tok) (s : Shared) (Q : Value → Shared → Prop) (E : Value → Shared → Prop), Q (.int (g i) s.toks) { s with toks := s.toks + 1 } → wpAny (model X.prog X.w) X.A (f (.int i t)) Q E s) :
    UnR X f (rU fun i => .int (g i)) := by
  intro pins s σ H x v Q I rx h
  obtain ⟨i, rfl, q⟩ := h
  obtain ⟨t, rfl⟩ := rx
  exact rule i t s _ _ ⟨.int (g i), H, I.tok _, ⟨_, rfl⟩, q⟩
theorem un_inv : UnR X (unaryOp .Invert) (rU fun i => .int (Builtin.bitNot i)) := unI fun _ _ _ _ _ q => invert_int q

/-! ### bools among ints: n += (a < b) -/
end

/-! ### comparisons -/
/-- the scalars that == tells apart as data does -/
def scal : V → V → Bool
  | .non, .non => true | .non, .int _ => true | .int _, .non => true | .non, .bl _ => true | .bl _, .non => true | .non, .str _ => true | .str _, .non => true
  | .int _, .int _ => true | .bl _, .bl _ => true | .str _, .str _ => true | .byt _, .byt _ => true
  | .int _, .str _ => true | .str _, .int _ => true | .bl _, .str _ => true | .str _, .bl _ => true
  | _, _ => false
def rEq : R2 := fun x y H Q => scal x y = true ∧ Q (.bl (decide (x = y))) H
def rNe : R2 := fun x y H Q => scal x y = true ∧ Q (.bl (!decide (x = y))) H

theorem dec_int {i j : Int} : decide (V.int i = V.int j) = (i == j) := by
  rw [Bool.eq_iff_iff]
  simp
theorem dec_bl {i j : Bool} : decide (V.bl i = V.bl j) = (i == j) := by
  rw [Bool.eq_iff_iff]
  simp
theorem dec_str {i j : Str} : decide (V.str i = V.str j) = (i == j) := by
  rw [Bool.eq_iff_iff]
  simp
theorem dec_byt {i j : Array UInt8} : decide (V.byt i = V.byt j) = (i.toList == j.toList) := by
  rw [Bool.eq_iff_iff]
  cases i
  cases j
  simp

section
variable {X : Cx} {a b c : Expr} {ta tb tc : TE} {pos : Pos}
theorem fin_bl {pins : List (Addr × Obj)} {σ : St} {H : Hp} {s : Shared} {Q : VK} {k k' : Bool} (I : Inv X pins σ H s) (q : Q (.bl k) H) (e : k = k') : EP X pins σ Q (.bool k') s := by
  subst e
  exact ⟨.bl k, H, I, rfl, q⟩
theorem op_eq : OpR X (compareOp .Eq) rEq := by
  intro pins s σ H x y v u Q I rx ry h
  obtain ⟨hs, q⟩ := h
  cases x with
  | non =>
    cases rx
    cases y with
    | non => cases ry; exact PySem.EqNone.eq_none_none (fin_bl I q (by simp))
    | bl j => cases ry; exact PySem.EqNone.eq_none_bool (fin_bl I q (by simp))
    | int j => obtain ⟨t', rfl⟩ := ry; exact PySem.EqNone.eq_none_int (fin_bl I q (by simp))
    | str j => obtain ⟨t', rfl⟩ := ry; exact PySem.EqNone.eq_none_str (fin_bl I q (by simp))
    | _ => exact absurd (show false = true from hs) Bool.false_ne_true
  | bl i =>
    cases rx
    cases y with
    | non => cases ry; exact PySem.EqNone.eq_bool_none (fin_bl I q (by simp))
    | bl j => cases ry; exact eq_bool (fin_bl I q dec_bl)
    | str j => obtain ⟨t', rfl⟩ := ry; exact PySem.EqMixed.eq_bool_str (fin_bl I q (by simp))
    | _ => exact absurd (show false = true from hs) Bool.false_ne_true
  | int i =>
    obtain ⟨t, rfl⟩ := rx
    cases y with
    | non => cases ry; exact PySem.EqNone.eq_int_none (fin_bl I q (by simp))
    | int j => obtain ⟨t', rfl⟩ := ry; exact eq_int (fin_bl I q dec_int)
    | str j => obtain ⟨t', rfl⟩ := ry; exact PySem.EqMixed.eq_int_str (fin_bl I q (by simp))
    | _ => exact absurd (show false = true from hs) Bool.false_ne_true
  | str i =>
    obtain ⟨t, rfl⟩ := rx
    cases y with
    | non => cases ry; exact PySem.EqNone.eq_str_none (fin_bl I q (by simp))
    | bl j => cases ry; exact PySem.EqMixed.eq_str_bool (fin_bl I q (by simp))
    | int j => obtain ⟨t', rfl⟩ := ry; exact PySem.EqMixed.eq_str_int (fin_bl I q (by simp))
    | str j => obtain ⟨t', rfl⟩ := ry; exact eq_str (fin_bl I q dec_str)
    | _ => exact absurd (show false = true from hs) Bool.false_ne_true
  | byt i =>
    obtain ⟨t, rfl⟩ := rx
    cases y with
    | byt j => obtain ⟨t', rfl⟩ := ry; exact PySem.W.eq_bytes (fin_bl I q dec_byt)
    | _ => exact absurd (show false = true from hs) Bool.false_ne_true
  | _ => cases y <;> exact absurd (show false = true from hs) Bool.false_ne_true
theorem op_ne : OpR X (compareOp .NotEq) rNe := by
  intro pins s σ H x y v u Q I rx ry h
  obtain ⟨hs, q⟩ := h
  cases x with
  | non =>
    cases rx
    cases y with
    | non => cases ry; exact PySem.EqNone.ne_none_none (fin_bl I q (by simp))
    | bl j => cases ry; exact PySem.EqNone.ne_none_bool (fin_bl I q (by simp))
    | int j => obtain ⟨t', rfl⟩ := ry; exact PySem.EqNone.ne_none_int (fin_bl I q (by simp))
    | str j => obtain ⟨t', rfl⟩ := ry; exact PySem.EqNone.ne_none_str (fin_bl I q (by simp))
    | _ => exact absurd (show false = true from hs) Bool.false_ne_true
  | bl i =>
    cases rx
    cases y with
    | non => cases ry; exact PySem.EqNone.ne_bool_none (fin_bl I q (by simp))
    | bl j => cases ry; exact ne_bool (fin_bl I q (congrArg not dec_bl))
    | str j => obtain ⟨t', rfl⟩ := ry; exact PySem.EqMixed.ne_bool_str (fin_bl I q (by simp))
    | _ => exact absurd (show false = true from hs) Bool.false_ne_true
  | int i =>
    obtain ⟨t, rfl⟩ := rx
    cases y with
    | non => cases ry; exact PySem.EqNone.ne_int_none (fin_bl I q (by simp))
    | int j => obtain ⟨t', rfl⟩ := ry; exact ne_int (fin_bl I q (congrArg not dec_int))
    | str j => obtain ⟨t', rfl⟩ := ry; exact PySem.EqMixed.ne_int_str (fin_bl I q (by simp))
    | _ => exact absurd (show false = true from hs) Bool.false_ne_true
  | str i =>
    obtain ⟨t, rfl⟩ := rx
    cases y with
    | non => cases ry; exact PySem.EqNone.ne_str_none (fin_bl I q (by simp))
    | bl j => cases ry; exact PySem.EqMixed.ne_str_bool (fin_bl I q (by simp))
    | int j => obtain ⟨t', rfl⟩ := ry; exact PySem.EqMixed.ne_str_int (fin_bl I q (by simp))
    | str j => obtain ⟨t', rfl⟩ := ry; exact ne_str (fin_bl I q (congrArg not dec_str))
    | _ => exact absurd (show false = true from hs) Bool.false_ne_true
  | byt i =>
    obtain ⟨t, rfl⟩ := rx
    cases y with
    | byt j => obtain ⟨t', rfl⟩ := ry; exact PySem.W.ne_bytes (fin_bl I q (congrArg not dec_byt))
    | _ => exact absurd (show false = true from hs) Bool.false_ne_true
  | _ => cases y <;> exact absurd (show false = true from hs) Bool.false_ne_true

theorem op_lt : OpR X (compareOp .Lt) (rI0 fun i j => .bl (decide (i < j))) := opB0 fun _ _ _ _ _ _ _ q => lt_int q
theorem op_le : OpR X (compareOp .LtE) (rI0 fun i j => .bl (decide (i ≤ j))) := opB0 fun _ _ _ _ _ _ _ q => le_int q
theorem op_gt : OpR X (compareOp .Gt) (rI0 fun i j => .bl (decide (j < i))) := opB0 fun _ _ _ _ _ _ _ q => gt_int q
/-- is None, is not None: the right side a value none -/
theorem op_isN : OpR X (compareOp .Is) (fun x y H Q => y = .non ∧ Q (.bl (decide (x = .non))) H) := by
  intro pins s σ H x y v u Q I rx ry h
  obtain ⟨rfl, q⟩ := h
  cases ry
  refine is_none_gen (fin_bl I q ?_)
  cases x <;> first
    | (cases rx; rfl)
    | (obtain ⟨t, rfl⟩ := rx; rfl)
theorem op_notN : OpR X (compareOp .IsNot) (fun x y H Q => y = .non ∧ Q (.bl (!decide (x = .non))) H) := by
  intro pins s σ H x y v u Q I rx ry h
  obtain ⟨rfl, q⟩ := h
  cases ry
  refine isnot_none_gen (fin_bl I q ?_)
  cases x <;> first
    | (cases rx; rfl)
    | (obtain ⟨t, rfl⟩ := rx; rfl)

/-- two rules for one operation: by cases -/
theorem OpR.or {f : Value → Value → Sem Value} {r r' : R2} (h : OpR X f r) (h' : OpR X f r') : OpR X f (fun x y H Q => r x y H Q ∨ r' x y H Q) := by
  intro pins s σ H x y v u Q I rx ry q
  rcases q with q | q
  · exact h pins s σ H x y v u Q I rx ry q
  · exact h' pins s σ H x y v u Q I rx ry q

theorem nomark (b : Expr) {op : CmpOp} (h : op ≠ .In := by decide) (h2 : op ≠ .NotIn := by decide) : behindInMarks op b = false := by
  have e1 : (op == CmpOp.In) = false := by cases op <;> first | rfl | exact absurd rfl h
  have e2 : (op == CmpOp.NotIn) = false := by cases op <;> first | rfl | exact absurd rfl h2
  cases b <;> simp [behindInMarks, e1, e2]
/-- a comparison as a value; hm: nomark b, or (for in, not in) by with_unfolding_all rfl -/
theorem pe_cmpR {op : CmpOp} {r : R2} (ho : OpR X (compareOp op) r) (ha : PE X a ta) (hb : PE X b tb) (hm : behindInMarks op b = false) : PE X (.Compare a [op] [b] pos) (tOp r ta tb) := by
  intro pins s σ H Q I h
  exact wpAny_Compare1 (binT ha hb I h fun v u s2 x y H2 I2 rx ry q => ho pins s2 σ H2 x y v u Q I2 rx ry q) hm
/-- a reading of a value as a test -/
def tTest (t : TE) : TT := fun σ H Q => t σ H fun x H' => ∃ k, x = .bl k ∧ Q k H'
theorem pt_cmpR {op : CmpOp} {r : R2} (ho : OpR X (compareOp op) r) (ha : PE X a ta) (hb : PE X b tb) (hm : behindInMarks op b = false) : PT X (.Compare a [op] [b] pos) (tTest (tOp r ta tb)) := by
  intro pins s σ H Q I h
  refine wpAny_isTrue_Compare1 (thn (ha pins s σ H _ I h) fun v s1 ⟨x, H1, I1, r1, q1⟩ => thn (hb pins s1 σ H1 _ I1 q1) fun u s2 ⟨y, H2, I2, r2, q2⟩ =>
    thn (ho pins s2 σ H2 x y v u _ I2 r1 r2 q2) fun c s3 ⟨z, H3, I3, r3, k, e, q3⟩ => ?_) hm
  subst e
  cases r3
  exact wpAny_truthy_bool ⟨H3, I3, q3⟩
/-- a op1 b op2 c -/
def tChain (r r' : R2) (ta tb tc : TE) : TE := fun σ H Q => ta σ H fun x H1 => tb σ H1 fun y H2 => r x y H2 fun z H3 => ∃ k, z = .bl k ∧
  (if k = true then tc σ H3 fun w' H4 => r' y w' H4 Q else Q (.bl false) H3)
theorem pt_chain {op op' : CmpOp} {r r' : R2} (ho : OpR X (compareOp op) r) (ho' : OpR X (compareOp op') r') (ha : PE X a ta) (hb : PE X b tb) (hc : PE X c tc)
    (hm : lastMarks [op, op'] [b, c] = false := by with_unfolding_all rfl) : PT X (.Compare a [op, op'] [b, c] pos) (tTest (tChain r r' ta tb tc)) := by
  intro pins s σ H Q I h
  refine isTrue_chain (thn (ha pins s σ H _ I h) fun v s1 ⟨x, H1, I1, r1, q1⟩ => test_link (thn (hb pins s1 σ H1 _ I1 q1) fun u s2 ⟨y, H2, I2, r2, q2⟩ =>
    thn (ho pins s2 σ H2 x y v u _ I2 r1 r2 q2) fun d s3 ⟨z, H3, I3, r3, k, e, q3⟩ => ?_)) hm
  subst e
  cases r3
  refine wpAny_truthy_bool ?_
  cases k with
  | false =>
    obtain ⟨k', e', q'⟩ := q3
    cases e'
    exact ite_ff ⟨H3, I3, q'⟩
  | true =>
    refine ite_tt (test_last (thn (hc pins s3 σ H3 _ I3 q3) fun w' s4 ⟨z', H4, I4, r4, q4⟩ => thn (ho' pins s4 σ H4 y z' u w' _ I4 r2 r4 q4) fun d' s5 ⟨z2, H5, I5, r5, k2, e2, q5⟩ => ?_))
    subst e2
    cases r5
    exact wpAny_truthy_bool ⟨H5, I5, q5⟩

/-! ### truth -/
theorem line63 : (sizeLine : Nat) < 2 ^ 63 := by rw [sizeLine_eq]; decide
/-! ### strs and bytes -/
/-! ### scalar builtins, by CallR -/
theorem vals1 {x : V} {us : List Value} (r : Vals [x] us) : ∃ u, us = [u] ∧ RelV x u := by
  cases r with
  | cons r1 r2 => cases r2; exact ⟨_, rfl, r1⟩
theorem vals2 {x y : V} {us : List Value} (r : Vals [x, y] us) : ∃ u w', us = [u, w'] ∧ RelV x u ∧ RelV y w' := by
  cases r with
  | cons r1 r2 =>
    cases r2 with
    | cons r3 r4 => cases r4; exact ⟨_, _, rfl, r1, r3⟩
theorem call_max2 (hc : X.calm = true) : CallR X (.builtin "max") (fun xs H Q => ∃ i j, xs = [.int i, .int j] ∧ Q (.int (if j > i then j else i)) H) := by
  intro pins s σ H xs us Q I r h
  obtain ⟨i, j, rfl, q⟩ := h
  obtain ⟨u, w', rfl, ⟨t, rfl⟩, ⟨t', rfl⟩⟩ := vals2 r
  refine max_two_ints (I.ok.hd hc) fun h' tk k => ⟨_, H, I.kept k, ?_, q⟩
  by_cases hj : j > i
  · rw [if_pos hj, if_pos hj]; exact ⟨_, rfl⟩
  · rw [if_neg hj, if_neg hj]; exact ⟨_, rfl⟩
theorem call_min2 (hc : X.calm = true) : CallR X (.builtin "min") (fun xs H Q => ∃ i j, xs = [.int i, .int j] ∧ Q (.int (if j < i then j else i)) H) := by
  intro pins s σ H xs us Q I r h
  obtain ⟨i, j, rfl, q⟩ := h
  obtain ⟨u, w', rfl, ⟨t, rfl⟩, ⟨t', rfl⟩⟩ := vals2 r
  refine min_two_ints (I.ok.hd hc) fun h' tk k => ⟨_, H, I.kept k, ?_, q⟩
  by_cases hj : j < i
  · rw [if_pos hj, if_pos hj]; exact ⟨_, rfl⟩
  · rw [if_neg hj, if_neg hj]; exact ⟨_, rfl⟩
theorem call_int1 : CallR X (.type "int") (fun xs H Q => (∃ i, xs = [.int i] ∧ Q (.int i) H) ∨ ∃ k, xs = [.bl k] ∧ Q (.int (if k then 1 else 0)) H) := by
  intro pins s σ H xs us Q I r h
  rcases h with ⟨i, rfl, q⟩ | ⟨k, rfl, q⟩
  · obtain ⟨u, rfl, t, rfl⟩ := vals1 r
    exact call_int_int ⟨.int i, H, I, ⟨_, rfl⟩, q⟩
  · obtain ⟨u, rfl, r1⟩ := vals1 r
    cases r1
    exact call_int_bool ⟨.int (if k then 1 else 0), H, I.tok _, ⟨_, rfl⟩, q⟩
end
end L2

namespace L2
open PySem PySem.Spec PyProof.Rows

/-! ### an instance, its attributes a map -/
structure ObjM (h : Heap) (x dx C : Addr) (mA : Str → Option Value) : Prop where
  obj : h.get? x = some (PySem.W.instObj C dx)
  ns : h.Ns1 dx mA
  ne : dx ≠ x

section
variable {prog : Program} {w : World} {A : Around} {E : Value → Shared → Prop} {s : Shared} {K : PySem.W.Frag} {x dx C f : Addr} {mA : Str → Option Value} {name : Str} {v : Value}

end

/-! ### the attributes as a list of pairs -/
section
variable {P : Program} {w : World} {H H' : Hp} {h h' : Heap} {a C dx : Addr} {fs fs' : List (Str × V)}
end

/-! ### what of the text a class must have -/
structure Cls (K : PySem.W.Frag) (C : Addr) : Prop where
  pg : PySem.W.plainGet K C Str.empty = true
  hd : PySem.W.hasDictIn K C = true
  po : PySem.W.plainOver K C = true
  sa : PySem.W.findIn K (.ref C) "__setattr__" = some (some (.builtin "object.__setattr__"))
theorem Cls.get {K : PySem.W.Frag} {C : Addr} (c : Cls K C) (f : Str) : PySem.W.plainGet K C f = true := c.pg
/-- a constant of the class -/
structure Con (K : PySem.W.Frag) (C : Addr) (f : Str) (v : V) (u : Value) : Prop where
  at_ : PySem.W.findIn K (.ref C) f = some (some u)
  rel : RelV v u
  get : PySem.W.specialIn K u "__get__" = some none
  cp : PySem.W.copiedNames.contains f = false
/-- a method: a plain def of the class or of one above it -/
structure Meth (K : PySem.W.Frag) (C : Addr) (m : Str) (f : Addr) : Prop where
  at_ : PySem.W.findIn K (.ref C) m = some (some (.ref f))
  fn : PySem.W.isFn K (.ref f) = true
  kp : PySem.W.keepIn K (.ref f) = true

section
variable {X : Cx} {pins : List (Addr × Obj)} {σ : St} {H : Hp} {s : Shared} {a C dx : Addr} {fs : List (Str × V)} {f : Str} {v : V} {A : Around} {E : Value → Shared → Prop}

/-- a new instance, tracked, without attributes -/
theorem Inv.made (I : Inv X pins σ H s) : Inv X pins σ (upd (upd H s.heap.objs.size (.own (s.heap.objs.size + 1))) (s.heap.objs.size + 1) (.ins C s.heap.objs.size []))
    { s with heap := (s.heap.push PySem.W.emptyDict).push (PySem.W.instObj C s.heap.objs.size) } := by
  have e1 : (s.heap.push PySem.W.emptyDict).get? s.heap.objs.size = some PySem.W.emptyDict := Heap.get?_push_size s.heap rfl
  have e2 : ((s.heap.push PySem.W.emptyDict).push (PySem.W.instObj C s.heap.objs.size)).get? (s.heap.objs.size + 1) = some (PySem.W.instObj C s.heap.objs.size) := by
    have := Heap.get?_push_size (s.heap.push PySem.W.emptyDict) (o := PySem.W.instObj C s.heap.objs.size) rfl
    rwa [Heap.size_push] at this
  have e3 : (s.heap.push PySem.W.emptyDict).Ns s.heap.objs.size (fun _ => none) := ⟨PySem.W.emptyDict, #[], _, e1, rfl, (fun e he => absurd he (by simp)), fun _ => rfl⟩
  have I1 := I.laid (a := s.heap.objs.size) (o := .own (s.heap.objs.size + 1)) (h' := s.heap.push PySem.W.emptyDict) (t' := s.toks) (fun b u q => Heap.get?_push_of_some _ q) (Nat.le_refl _) ⟨_, e1⟩
  refine I1.laid (a := s.heap.objs.size + 1) (o := .ins C s.heap.objs.size []) (t' := s.toks) (fun b u q => Heap.get?_push_of_some _ q) (Nat.le_of_eq (Heap.size_push _ _)) ?_
  have ne : s.heap.objs.size ≠ s.heap.objs.size + 1 := Nat.ne_of_lt (Nat.lt_succ_self _)
  refine ⟨by rw [upd_ne ne, upd_same], Nat.zero_le _, ne, e2, fun _ => none, (Heap.Ns1.of_empty e3).at fun o q => Heap.get?_push_of_some _ q, fun _ => True.intro, fun y hy => absurd rfl hy⟩

end

/-! ### readings and rules -/
section
variable {X : Cx} {o e value : Expr} {f : Str} {pos pos' tpos : Pos} {ta tv : TE}
end

/-! ### isinstance -/
section
variable {X : Cx} {pins : List (Addr × Obj)} {σ : St} {H : Hp} {s : Shared} {A : Around} {E : Value → Shared → Prop} {Q : Value → Shared → Prop} {c : Value} {b : Bool}
/-- the type of a value, as the fragment's deciders take it; for an instance its class -/
inductive TyOf (K : PySem.W.Frag) (H : Hp) : V → Value → Prop where
  | non : TyOf K H .non (.type "NoneType")
  | bl (x : Bool) : TyOf K H (.bl x) (.type "bool")
  | int (i : Int) : TyOf K H (.int i) (.type "int")
  | str (x : Str) : TyOf K H (.str x) (.type "str")
  | flt (x : UInt64) : TyOf K H (.flt x) (.type "float")
  | lst {a : Addr} {xs : List V} (e : H a = some (.lst xs)) : TyOf K H (.ref a) (.type "list")
  | frz {a : Addr} {o : Obj} {xs : List V} (e : H a = some (.frz o (.lst xs))) : TyOf K H (.ref a) (.type "list")
  | tup {a : Addr} {xs : List V} (e : H a = some (.tup xs)) : TyOf K H (.ref a) (.type "tuple")
  | dK {a : Addr} {kvs : List (Key × V)} (e : H a = some (.dK kvs)) : TyOf K H (.ref a) (.type "dict")
  | dT {a : Addr} {kvs : List (List Key × V)} (e : H a = some (.dT kvs)) : TyOf K H (.ref a) (.type "dict")
  | ins {a C dx : Addr} {fs : List (Str × V)} (e : H a = some (.ins C dx fs)) (cl : Cls K C) (ha : PySem.W.findIn K (.ref C) "__class__" = some (some (.builtin "object.__class__")))
      (hn : PySem.W.specialIn K (.builtin "object.__class__") "__get__" = some (some (.builtin "getset_descriptor.__get__"))) (htk : PySem.W.takesIn K (.builtin "object.__class__") = some true)
      (hm : PySem.W.mroIn K C (.type "object") = some true) : TyOf K H (.ref a) (.ref C)
end
end L2

namespace L2
open PySem PySem.Spec PyProof.Rows

/-! ### room -/
structure Room (k : Nat) (A : Around) : Prop where
  hd : A.handled = none
  dp : A.depth + 3 * k + 5 < recursionLimit
  un : A.units + 16 * k + 200 < cLine
theorem Room.mono {j k : Nat} {A : Around} (r : Room k A) (h : j ≤ k) : Room j A := ⟨r.hd, by have := r.dp; omega, by have := r.un; omega⟩
theorem Room.deeper {k : Nat} {A : Around} (r : Room (k + 1) A) (env : Env) : Room k (A.deeper env) :=
  ⟨r.hd, by have := r.dp; show A.depth + 1 + 3 * k + 5 < _; omega, by have := r.un; show A.units + 3 + 16 * k + 200 < _; omega⟩
theorem Room.in1 {k : Nat} {A : Around} (r : Room (k + 1) A) : Room k A.in1 :=
  ⟨r.hd, by have := r.dp; show A.depth + 3 * k + 5 < _; omega, by have := r.un; show A.units + 1 + 16 * k + 200 < _; omega⟩
theorem Room.depth {k : Nat} {A : Around} (r : Room k A) : A.depth < recursionLimit := by have := r.dp; omega
theorem Room.units {k : Nat} {A : Around} (r : Room k A) : A.units + 64 < cLine := by have := r.un; omega
/-! ### argument lists and displays -/
def tNil : TA := fun _ H Q => Q [] H
def tCons (ta : TE) (tr : TA) : TA := fun σ H Q => ta σ H fun x H1 => tr σ H1 fun xs H2 => Q (x :: xs) H2
section
variable {X : Cx} {e : Expr} {es : List Expr} {te : TE} {t : TA} {pos : Pos}
theorem pa_nil : PA X [] tNil := fun _ _ _ _ H Q I h => Calls.spliced_nil ⟨[], H, I, .nil, h⟩
theorem pa_cons (ha : PE X e te) (hr : PA X es t) (hs : starEach (e :: es) X.env = (false, eval e X.env) :: starEach es X.env := by rfl) : PA X (e :: es) (tCons te t) := by
  intro pos pins s σ H Q I h
  rw [hs]
  show wpAny _ _ (spliced ((false, eval e X.env) :: backTo pos (starEach es X.env))) _ _ s
  refine Calls.spliced_cons (thn (ha pins s σ H _ I h) fun u s1 ⟨x, H1, I1, r1, q1⟩ => ?_)
  exact thn (hr pos pins s1 σ H1 _ I1 q1) fun us s2 ⟨xs, H2, I2, r2, q2⟩ => ⟨x :: xs, H2, I2, .cons r1 r2, q2⟩

/-- a tuple, a list of written items -/
def tTup (t : TA) : TE := fun σ H Q => t σ H fun xs H1 => xs.length ≤ sizeLine ∧ ∀ p, H1 p = none → Q (.ref p) (upd H1 p (.tup xs))
def tLst (t : TA) : TE := fun σ H Q => t σ H fun xs H1 => xs.length ≤ sizeLine ∧ ∀ p, H1 p = none → Q (.ref p) (upd H1 p (.lst xs))
theorem pe_tup {x1} (h : PA X es t) : PE X (.Tuple es x1 pos) (tTup t) := by
  intro pins s σ H Q I hq
  refine wpAny_Tuple_spliced (thn (h pos pins s σ H _ I hq) fun us s1 ⟨xs, H1, I1, r, z, q⟩ => ⟨by rw [← r.length]; exact z, ?_⟩)
  have hf : H1 s1.heap.objs.size = none := I1.hok.fresh (Nat.le_refl _)
  refine ⟨.ref s1.heap.objs.size, upd H1 s1.heap.objs.size (.tup xs), I1.laid (t' := s1.toks) (fun b u e => Heap.get?_push_of_some _ e) (Nat.le_refl _) ?_, rfl, q _ hf⟩
  exact ⟨z, us, r, ⟨_, Heap.get?_push_size _ rfl, rfl, _, rfl⟩⟩
theorem pe_lst (h : PA X es t) : PE X (.List es pos) (tLst t) := by
  intro pins s σ H Q I hq
  refine wpAny_List_spliced (thn (h pos pins s σ H _ I hq) fun us s1 ⟨xs, H1, I1, r, z, q⟩ => ⟨by rw [← r.length]; exact z, ?_⟩)
  have hf : H1 s1.heap.objs.size = none := I1.hok.fresh (Nat.le_refl _)
  refine ⟨.ref s1.heap.objs.size, upd H1 s1.heap.objs.size (.lst xs), I1.laid (t' := s1.toks) (fun b u e => Heap.get?_push_of_some _ e) (Nat.le_refl _) ?_, rfl, q _ hf⟩
  exact ⟨z, us, 0, r, Heap.get?_push_size _ rfl⟩
end

/-! ### what a def promises -/
/-- a def's promise: the bound arguments in the parameters' order, the heap, the wanted end, the wanted exception -/
abbrev Sp := List V → Hp → VK → XK → Prop
/-- how an exception lies behind a call (file 08 gives it): the callers' frames, abstract heap and state ahead of the call, the wish, the exception, the state -/
abbrev CXT := List Env → Hp → Shared → XK → Value → Shared → Prop

/-- the state at a call -/
structure Env0 (P : Program) (w : World) (K : PySem.W.Frag) (mg : Str → Option Value) (base : Heap) (A : Around) (outer : List Env) (s : Shared) (H : Hp) : Prop where
  frames : A.frames = some outer
  mod : Mod K mg base
  bs : ∀ b o, base.get? b = some o → s.heap.get? b = some o ∧ H b = none
  bsz : base.objs.size ≤ s.heap.objs.size
  funs : s.heap.FunFrames base outer
  frf : ∀ b ∈ frs outer, H b = none
  hok : HOk P w H s.heap
  bare : AllBare s.gens
/-- a call's end -/
def CE (outer : List Env) (P : Program) (w : World) (H : Hp) (s : Shared) (Q : VK) (u : Value) (s' : Shared) : Prop :=
  ∃ v H', s'.os = s.os ∧ AllBare s'.gens ∧ Un (frs outer) [] H H' s.heap s'.heap ∧ HOk P w H' s'.heap ∧ RelV v u ∧ Q v H'
def CR (CX : CXT) (outer : List Env) (P : Program) (w : World) (H : Hp) (s : Shared) (Q : VK) (E : XK) (r : Result) (s' : Shared) : Prop :=
  match r with
  | .ok (.ret u) => CE outer P w H s Q u s'
  | .ok _ => False
  | .error e => CX outer H s E e s'
structure FnOk (P : Program) (w : World) (K : PySem.W.Frag) (mg : Str → Option Value) (base : Heap) (CX : CXT) (k : Nat) (f : Addr) (fd : FuncData) (ps : List Str) (sp : Sp) : Prop where
  len : ∀ vs H Q E, sp vs H Q E → vs.length = ps.length
  run : ∀ (A : Around) (outer : List Env) (s : Shared) (H : Hp) (args : Args) (us : List Value) (vs : List V) (Q : VK) (E : XK), Room k A → Env0 P w K mg base A outer s H → BindsTo s fd args (ps.zip us) → Vals vs us → sp vs H Q E →
    codeAny (model P w) A (.call (.ref f) args) (CR CX outer P w H s Q E) s
theorem FnOk.mono {P : Program} {w : World} {K : PySem.W.Frag} {mg : Str → Option Value} {base : Heap} {CX : CXT} {j k : Nat} {f : Addr} {fd : FuncData} {ps : List Str} {sp : Sp} (F : FnOk P w K mg base CX j f fd ps sp) (h : j ≤ k) :
    FnOk P w K mg base CX k f fd ps sp := ⟨F.len, fun A outer s H args us vs Q E hr => F.run A outer s H args us vs Q E (hr.mono h)⟩
/-- a weaker promise -/
theorem FnOk.imp {P : Program} {w : World} {K : PySem.W.Frag} {mg : Str → Option Value} {base : Heap} {CX : CXT} {k : Nat} {f : Addr} {fd : FuncData} {ps : List Str} {sp sp' : Sp} (F : FnOk P w K mg base CX k f fd ps sp)
    (h : ∀ vs H Q E, sp' vs H Q E → sp vs H Q E) : FnOk P w K mg base CX k f fd ps sp' :=
  ⟨fun vs H Q E q => F.len vs H Q E (h _ _ _ _ q), fun A outer s H args us vs Q E hr he hb hv hs => F.run A outer s H args us vs Q E hr he hb hv (h _ _ _ _ hs)⟩

theorem Env0.in1 {P : Program} {w : World} {K : PySem.W.Frag} {mg : Str → Option Value} {base : Heap} {A : Around} {outer : List Env} {s : Shared} {H : Hp} (e : Env0 P w K mg base A outer s H) :
    Env0 P w K mg base A.in1 outer s H := ⟨e.frames, e.mod, e.bs, e.bsz, e.funs, e.frf, e.hok, e.bare⟩

section
variable {X : Cx} {pins : List (Addr × Obj)} {σ : St} {H : Hp} {s s' : Shared}
/-- from a body: what a callee wants -/
theorem Inv.env0 (I : Inv X pins σ H s) : Env0 X.prog X.w X.K X.mg X.base X.A X.stack s H :=
  ⟨I.ok.frames, I.ok.mod, I.bs, Nat.le_trans I.ok.bsz I.sz, I.stack, I.stkFree, I.hok, I.bare⟩
/-- behind a call -/
theorem Inv.after {Q : VK} {u : Value} (I : Inv X pins σ H s) (h : CE X.stack X.prog X.w H s Q u s') : EP X pins σ Q u s' := by
  obtain ⟨v, H', os, bare, un, hok, r, q⟩ := h
  obtain ⟨hh, g, d, t, os'⟩ := s'
  obtain rfl : os' = s.os := os
  exact ⟨v, H', I.call (h' := hh) (g' := g) (d' := d) (t' := t) (ch := []) un hok bare (fun b z => absurd z (by simp)), r, q⟩
end

/-! ### calls -/
/-- f(..): the written arguments, then the defaults dvs; E: what is wanted of an exception -/
def tCall (sp : Sp) (dvs : List V) (E : XK) (t : TA) : TE := fun σ H Q => t σ H fun vs H1 => sp (vs ++ dvs) H1 Q E
/-- how the parameters are bound: us the positional arguments, kw the keywords' values by name, ds the defaults that fill up -/
def Binds (K : PySem.W.Frag) (fd : FuncData) (ps : List Str) (ds : List Value) : Prop :=
  ∀ (s : Shared) (us : List Value), K.In s.heap → (us ++ ds).length = ps.length → BindsTo s fd ⟨us, []⟩ (ps.zip (us ++ ds))
/-- every parameter is given -/
theorem Binds.all {K : PySem.W.Frag} {fd : FuncData} {ps : List Str} (h : ∀ us : List Value, us.length = ps.length → bindArgs fd ⟨us, []⟩ = pure (ps.zip us)) : Binds K fd ps [] := fun s us _ hl => by
  rw [List.append_nil] at hl ⊢
  exact .of_eq (h us hl)

/-- an exception of a callee reaches what this body wants of exceptions -/
def Passes (CX : CXT) (X : Cx) (E : XK) : Prop := ∀ (pins : List (Addr × Obj)) (σ : St) (H : Hp) (s : Shared) (e : Value) (s' : Shared), Inv X pins σ H s → CX X.stack H s E e s' → X.xe e s'

section
variable {X : Cx} {CX : CXT} {k : Nat} {f C : Addr} {fd : FuncData} {ps : List Str} {sp : Sp} {dvs : List V} {ds : List Value} {E : XK} {x m : Str} {p pos apos : Pos} {e o : Expr} {es : List Expr} {ta : TE} {t : TA}

/-- the callee runs -/
theorem run_fn {pins : List (Addr × Obj)} {σ : St} {H : Hp} {s : Shared} {Q : VK} {us : List Value} {vs : List V} (F : FnOk X.prog X.w X.K X.mg X.base CX k f fd ps sp) (hr : Room k X.A) (hb : Binds X.K fd ps ds) (hd : Vals dvs ds) (hx : Passes CX X E)
    (I : Inv X pins σ H s) (r : Vals vs us) (h : sp (vs ++ dvs) H Q E) : wpAny (model X.prog X.w) X.A (call (.ref f) us) (EP X pins σ Q) X.xe s := by
  have r2 : Vals (vs ++ dvs) (us ++ ds) := r.append hd
  have hl : (us ++ ds).length = ps.length := by rw [← r2.length]; exact F.len _ _ _ _ h
  refine wpAny_call (codeAny_mono (F.run X.A X.stack s H ⟨us, []⟩ (us ++ ds) (vs ++ dvs) Q E hr I.env0 (hb s us I.kIn hl) r2 h) fun r s' hq => ?_)
  cases r with
  | error e => exact hx pins σ H s e s' I hq
  | ok fl =>
    cases fl with
    | ret u => exact I.after hq
    | next => exact False.elim hq
    | brk => exact False.elim hq
    | cont => exact False.elim hq

theorem pe_call (F : FnOk X.prog X.w X.K X.mg X.base CX k f fd ps sp) (hr : Room k X.A) (hg : Gl X x) (hm : X.mg x = some (.ref f)) (hk : PySem.W.keepIn X.K (.ref f) = true) (hb : Binds X.K fd ps ds) (hd : Vals dvs ds) (hx : Passes CX X E)
    (ha : PA X (e :: es) t) (hdb : (x == ("__debug__" : Str)) = false := by decide) (he : starEach (e :: es) X.env = (false, eval e X.env) :: starEach es X.env := by rfl) (hpl : (backTo pos (starEach es X.env)).any (·.1) = false := by rfl) :
    PE X (.Call (.Name x p) (e :: es) [] pos) (tCall sp dvs E t) := by
  intro pins s σ H Q I h
  refine wpAny_Call_Name_kw (ld_glob I hg hm ?_ hdb)
  refine PySem.W.callWith_K (h₀ := X.base) I.ok.mod.kin hk (thn (ha pos pins s σ H _ I h) fun us s1 ⟨vs, H1, I1, r, q⟩ => ⟨I1.kIn, ?_⟩) he hpl
  exact run_fn F hr hb hd hx I1 r q
/-- what a class must have to be made -/
structure Mk (K : PySem.W.Frag) (C f : Addr) : Prop where
  makes : PySem.W.makesIn K C = true
  init : PySem.W.findIn K (.ref C) "__init__" = some (some (.ref f))
  fn : PySem.W.isFn K (.ref f) = true
  kp : PySem.W.keepIn K (.ref C) = true

end

/-! ### keywords -/
/-- the values of the keywords, from the left -/
def PK (X : Cx) (kws : List Keyword) (t : TA) : Prop :=
  ∀ (pos : Pos) (pins : List (Addr × Obj)) (s : Shared) (σ : St) (H : Hp) (Q : List V → Hp → Prop), Inv X pins σ H s → t σ H Q → wpAny (model X.prog X.w) X.A (evalAll ((backToKw pos (keywordEach kws X.env)).map (·.2))) (AP X pins σ Q) X.xe s
section
variable {X : Cx} {CX : CXT} {k : Nat} {f C : Addr} {fd : FuncData} {ps ks : List Str} {sp : Sp} {E : XK} {x m : Str} {p pos apos kpos : Pos} {e o : Expr} {es : List Expr} {kws : List Keyword} {te ta : TE} {t tk : TA} {nm : Option Str}
theorem pk_nil : PK X [] tNil := fun _ _ _ _ H Q I h => wpAny_evalAll_nil ⟨[], H, I, .nil, h⟩
theorem pk_cons (ha : PE X e te) (hr : PK X kws t) : PK X (⟨nm, e, kpos⟩ :: kws) (tCons te t) := by
  intro pos pins s σ H Q I h
  show wpAny _ _ (evalAll ((do let v ← eval e X.env; standAt pos; pure v) :: (backToKw pos (keywordEach kws X.env)).map (·.2))) _ _ s
  refine wpAny_evalAll_cons (wpAny_bind (thn (ha pins s σ H _ I h) fun u s1 ⟨x, H1, I1, r1, q1⟩ => wpAny_bind (wpAny_standAt (wpAny_pure ?_))))
  exact thn (hr pos pins s1 σ H1 _ I1 q1) fun us s2 ⟨xs, H2, I2, r2, q2⟩ => ⟨x :: xs, H2, I2, .cons r1 r2, q2⟩

/-- how a call with keywords binds: g puts the positional values us and the keywords' values ws (names ks) in the parameters' order, defaults among them -/
structure KBinds (K : PySem.W.Frag) (fd : FuncData) (ps ks : List Str) (g : List Value → List Value → List Value) (gV : List V → List V → List V) : Prop where
  to : ∀ (s : Shared) (us ws : List Value), K.In s.heap → (g us ws).length = ps.length → BindsTo s fd ⟨us, ks.zip ws⟩ (ps.zip (g us ws))
  rel : ∀ {vs : List V} {us : List Value} {zs : List V} {ws : List Value}, Vals vs us → Vals zs ws → Vals (gV vs zs) (g us ws)
variable {g : List Value → List Value → List Value} {gV : List V → List V → List V}
end

/-! ### a def's body keeps its promise -/
/-- names: the parameters first -/
structure FnScope (N P : List Str) (sc : Scope) : Prop where
  kind : sc.kind = .function
  co : sc.isCoroutine = false
  gen : sc.isGenerator = false
  nd : N.Nodup
  pre : N.take P.length = P
  par : ∀ x ∈ P, sc.names.lookup x = some .local ∨ sc.names.lookup x = some .cell
  nofree : ∀ y ∈ sc.names, y.2 ≠ .free

theorem bindL_out {kindOf : Str → Option NameKind} {x : Str} : ∀ {binds : List (Str × Value)} {m : Str → Option Value}, (∀ v, (x, v) ∉ binds) → bindL kindOf binds m x = m x
  | [], _, _ => rfl
  | (n, v) :: r, m, h => by
    unfold bindL
    rw [bindL_out fun w hw => h w (List.mem_cons_of_mem _ hw)]
    split
    · have : x ≠ n := by rintro rfl; exact h v List.mem_cons_self
      simp [this]
    · rfl
theorem bindC_out {kindOf : Str → Option NameKind} {x : Str} : ∀ {binds : List (Str × Value)} {m : Str → Option Value}, (∀ v, (x, v) ∉ binds) → bindC kindOf binds m x = m x
  | [], _, _ => rfl
  | (n, v) :: r, m, h => by
    unfold bindC
    rw [bindC_out fun w hw => h w (List.mem_cons_of_mem _ hw)]
    split
    · rfl
    · have : x ≠ n := by rintro rfl; exact h v List.mem_cons_self
      simp [this]
theorem bindL_get {kindOf : Str → Option NameKind} {x : Str} {v : Value} : ∀ {P : List Str} {vs : List Value} {i : Nat} {m : Str → Option Value}, P.Nodup → P[i]? = some x → vs[i]? = some v → kindOf x = some .local →
    bindL kindOf (P.zip vs) m x = some v
  | [], _, _, _, _, h, _, _ => by simp at h
  | _ :: _, [], _, _, _, _, h, _ => by simp at h
  | p :: P, w :: vs, 0, m, nd, h1, h2, hk => by
    simp at h1 h2; subst h1; subst h2
    show bindL kindOf ((p, w) :: P.zip vs) m p = _
    unfold bindL
    rw [bindL_out fun v hv => (List.nodup_cons.mp nd).1 (List.of_mem_zip hv).1, if_pos hk]
    simp
  | p :: P, w :: vs, i + 1, m, nd, h1, h2, hk => by
    show bindL kindOf ((p, w) :: P.zip vs) m x = _
    unfold bindL
    exact bindL_get (i := i) (List.nodup_cons.mp nd).2 (by simpa using h1) (by simpa using h2) hk
theorem bindC_get {kindOf : Str → Option NameKind} {x : Str} {v : Value} : ∀ {P : List Str} {vs : List Value} {i : Nat} {m : Str → Option Value}, P.Nodup → P[i]? = some x → vs[i]? = some v → kindOf x ≠ some .local →
    bindC kindOf (P.zip vs) m x = some v
  | [], _, _, _, _, h, _, _ => by simp at h
  | _ :: _, [], _, _, _, _, h, _ => by simp at h
  | p :: P, w :: vs, 0, m, nd, h1, h2, hk => by
    simp at h1 h2; subst h1; subst h2
    show bindC kindOf ((p, w) :: P.zip vs) m p = _
    unfold bindC
    rw [bindC_out fun v hv => (List.nodup_cons.mp nd).1 (List.of_mem_zip hv).1, if_neg hk]
    simp
  | p :: P, w :: vs, i + 1, m, nd, h1, h2, hk => by
    show bindC kindOf ((p, w) :: P.zip vs) m x = _
    unfold bindC
    exact bindC_get (i := i) (List.nodup_cons.mp nd).2 (by simpa using h1) (by simpa using h2) hk

/-- the names' values at the entry -/
def start (N : List Str) (vs : List V) : St := vs.map some ++ List.replicate (N.length - vs.length) none

/-- the context of a def's body, at its entry; an exception leaves the frame, then lies as CX says -/
def cxOf (CX : CXT) (P : Program) (w : World) (K : PySem.W.Frag) (mg : Str → Option Value) (base : Heap) (N : List Str) (qual : Str) (scope : Scope) (f : Addr) (cd : Value) (A : Around) (outer : List Env) (s : Shared) (H : Hp) (E : XK) : Cx where
  prog := P
  w := w
  K := K
  mg := mg
  base := base
  A := A.deeper (envOfC qual scope s.heap.objs.size f cd)
  N := N
  s₀ := s
  H₀ := H
  env := envOfC qual scope s.heap.objs.size f cd
  outer := outer
  stack := envOfC qual scope s.heap.objs.size f cd :: outer
  ex := []
  calm := true
  fn := fun _ => true
  pn := []
  xe := fun e s' => wpAny (model P w) (A.deeper (envOfC qual scope s.heap.objs.size f cd)) (leaving (envOfC qual scope s.heap.objs.size f cd) e) (fun _ s'' => CX outer H s E e s'') (fun e' s'' => CX outer H s E e' s'') s'

theorem cell_has {sc : Scope} {n : Nat} {x : Str} (h : sc.names.lookup x = some .cell) : ∃ c, (cellsFrom n sc.names []).lookup x = some c := by
  have q := PySem.W.cellsFrom_some sc.names n [] (.inl h)
  exact Option.isSome_iff_exists.mp q

theorem inv_start {CX : CXT} {P : Program} {w : World} {K : PySem.W.Frag} {mg : Str → Option Value} {base : Heap} {N ps : List Str} {qual : Str} {scope : Scope} {f : Addr} {cd : Value} {A : Around} {outer : List Env} {s s1 : Shared} {H : Hp} {E : XK} {us : List Value} {vs : List V}
    (S : FnScope N ps scope) (hd : A.handled = none) (e0 : Env0 P w K mg base A outer s H) (hl : vs.length = ps.length) (r : Vals vs us)
    (x : InCallC s s.heap.objs.size (bindL (envOfC qual scope s.heap.objs.size f cd).kindOf (ps.zip us) fun _ => none) (cellsFrom (s.heap.objs.size + 1) scope.names []) (bindC (envOfC qual scope s.heap.objs.size f cd).kindOf (ps.zip us) fun _ => none) s1) :
    Inv (cxOf CX P w K mg base N qual scope f cd A outer s H E) [] (start N vs) H s1 := by
  have hpl : ps.length ≤ N.length := by have := congrArg List.length S.pre; rw [List.length_take] at this; omega
  obtain ⟨h1, tk, rfl, hk⟩ := x.done
  have noA : ∀ b : Addr, b ∉ (cxOf CX P w K mg base N qual scope f cd A outer s H E).ex := fun b z => absurd (show b ∈ ([] : List Addr) from z) (by simp)
  refine ⟨⟨e0.mod, S.kind, rfl, rfl, Nat.le_refl _, fun y z c h1 h2 => ?_, fun y hy => ?_, fun y c _ h => ?_, fun _ => hd, Around.frames_deeper e0.frames, .inr ⟨rfl, rfl⟩, fun b z => absurd z (noA b), e0.bs, e0.bsz, fun b _ _ => noA b, fun b z => absurd z (noA b), e0.funs, e0.frf⟩,
    rfl, e0.bare, Un.kept hk, ⟨_, x.toInCall.ns, fun i y v h1 h2 h3 => ?_⟩, fun y c h => ⟨_, x.cell y c h⟩, e0.hok.fresh (Nat.le_refl _), fun y c h => ?_, fun p hp => absurd (show p ∈ ([] : List (Addr × Obj)) from hp) (by simp), e0.hok.kept hk, ?_⟩
  · exact name_of_addr x.apart (PySem.mem_of_lookup h1) (PySem.mem_of_lookup h2)
  · have hy : scope.names.lookup y = some .cell ∨ scope.names.lookup y = some .free := hy
    rcases hy with hy | hy
    · exact cell_has hy
    · exact absurd rfl (S.nofree _ (PySem.mem_of_lookup hy))
  · exact Nat.le_of_lt (x.above y c (PySem.mem_of_lookup h))
  · have hi : i < vs.length := by
      unfold start at h2
      by_cases hi : i < vs.length
      · exact hi
      · rw [List.getElem?_append_right (by simpa using hi)] at h2
        rw [List.getElem?_replicate] at h2
        split at h2 <;> cases h2
    have ha : vs[i]? = some v := by
      unfold start at h2
      rw [List.getElem?_append_left (by simpa using hi), List.getElem?_map] at h2
      cases e : vs[i]? with
      | none => rw [e] at h2; cases h2
      | some a => rw [e] at h2; cases h2; rfl
    obtain ⟨u, hu, rv⟩ := r.get ha
    have hp : ps[i]? = some y := by
      rw [← S.pre, List.getElem?_take_of_lt (by omega)]; exact h1
    have ndP : ps.Nodup := by rw [← S.pre]; exact S.nd.sublist (List.take_sublist _ _)
    refine ⟨u, rv, ?_⟩
    rcases S.par y (List.mem_of_getElem? hp) with k | k
    · exact .inl ⟨k, bindL_get ndP hp hu k⟩
    · obtain ⟨c, e⟩ := cell_has (n := s.heap.objs.size + 1) k
      refine .inr ⟨.inl k, c, e, ?_⟩
      have q := x.cell y c e
      rw [bindC_get ndP hp hu (by show scope.names.lookup y ≠ _; rw [k]; decide)] at q
      exact q
  · exact e0.hok.fresh (Nat.le_of_lt (x.above y c (PySem.mem_of_lookup h)))
  · unfold start
    show _ = N.length
    rw [List.length_append, List.length_map, List.length_replicate]
    omega

/-- THE RULE: a def (or a method) of the text, by its body. The body's reading t is chosen for each entry; it is run at the parameters' values -/
theorem fn_of {CX : CXT} {P : Program} {w : World} {K : PySem.W.Frag} {mg : Str → Option Value} {base : Heap} {k : Nat} {f : Addr} {name qual : Str} {params : Arguments} {body : List Stmt} {scope : Scope} {dV kV doc pm cdv ct oc : Value} {an od : Option Addr}
    {osl : Array (Option Value)} {N ps : List Str} {sp : Sp} (lk : K.lookup f = some ⟨oc, od, .func (PySem.W.fnOf name qual params body scope dV kV doc pm an cdv ct), osl⟩) (hcd : PySem.W.codeIn K cdv qual = true) (S : FnScope N ps scope)
    (len : ∀ vs H Q E, sp vs H Q E → vs.length = ps.length)
    (hbody : ∀ (A : Around) (outer : List Env) (s : Shared) (H : Hp) (vs : List V) (Q : VK) (E : XK), Room k (A.deeper (envOfC qual scope s.heap.objs.size f cdv)) → sp vs H Q E →
      ∃ t, PSs (cxOf CX P w K mg base N qual scope f cdv A outer s H E) body t ∧ t { nx := fun _ H' => Q .non H', rt := Q } (start N vs) H) :
    FnOk P w K mg base CX (k + 1) f (PySem.W.fnOf name qual params body scope dV kV doc pm an cdv ct) ps sp := by
  refine ⟨len, fun A outer s H args us vs Q E hr e0 hb r hsp => ?_⟩
  have hl := len _ _ _ _ hsp
  have KX : K.In s.heap := e0.mod.kin.keeps fun b o e => (e0.bs b o e).1
  have lim : s.heap.NoLimit := e0.mod.nolimit.keeps fun b o e => (e0.bs b o e).1
  have hkind : ∀ y ∈ ps.zip us, scope.names.lookup y.1 = some .local ∨ (scope.names.lookup y.1 = some .cell ∧ ((cellsFrom (s.heap.objs.size + 1) scope.names []).lookup y.1).isSome = true) := fun ⟨n, v⟩ hy => by
    rcases S.par n (List.of_mem_zip hy).1 with q | q
    · exact .inl q
    · exact .inr ⟨q, PySem.W.cellsFrom_some _ _ _ (.inl q)⟩
  refine codeAny_call_function hr.depth (KX _ _ lk) rfl S.co S.gen rfl (PySem.W.codeRec_of KX hcd) (hb _ _ _ _ ?_)
  refine wpAny_newFunctionEnv_cells S.kind hkind fun env he s1 x => ?_
  subst he
  refine ⟨lim.keeps x.toInCall.keep, codeAny_func ?_⟩
  obtain ⟨t, ht, hq⟩ := hbody A outer s H vs Q E (hr.deeper _) hsp
  have I : Inv (cxOf CX P w K mg base N qual scope f cdv A outer s H E) [] (start N vs) H s1 := inv_start S hr.hd e0 hl r x
  refine wpAny_mono (ht [] s1 (start N vs) H _ I hq) (fun fl s' hs => ?_) fun e s' hs => hs
  have fin : ∀ {σ' : St} {H' : Hp} {v : V} {u : Value}, Inv (cxOf CX P w K mg base N qual scope f cdv A outer s H E) [] σ' H' s' → RelV v u → Q v H' → CE outer P w H s Q u s' :=
    fun {σ' H' v u} J rv q => ⟨v, H', J.os, J.bare, J.base, J.hok, rv, q⟩
  cases fl with
  | ret u =>
    obtain ⟨v, σ', H', J, rv, q⟩ := hs
    exact fin J rv q
  | next =>
    obtain ⟨σ', H', J, q⟩ := hs
    exact fin (v := V.non) (u := Value.none) J rfl q
  | brk =>
    obtain ⟨_, _, _, q⟩ := hs
    exact False.elim q
  | cont =>
    obtain ⟨_, _, _, q⟩ := hs
    exact False.elim q
end L2

namespace L2
open PySem PySem.Spec PyProof.Rows
section
variable {X : Cx} {x : Str} {p pos : Pos} {e : Expr} {es : List Expr} {t : TA} {id T : String} {r : List V → Hp → VK → Prop}

def tCB (r : List V → Hp → VK → Prop) (t : TA) : TE := fun σ H Q => t σ H fun vs H1 => r vs H1 Q
/-- f(e, ..), f a built-in function -/
theorem pe_callB (hc : CallR X (.builtin id) r) (hg : Gl X x) (hm : X.mg x = none) (hv : bootBuiltins x = some (.builtin id)) (ha : PA X (e :: es) t) (hn : x ≠ "__name__" := by decide) (hdb : (x == ("__debug__" : Str)) = false := by decide)
    (he : starEach (e :: es) X.env = (false, eval e X.env) :: starEach es X.env := by rfl) (hpl : (backTo pos (starEach es X.env)).any (·.1) = false := by rfl) : PE X (.Call (.Name x p) (e :: es) [] pos) (tCB r t) := by
  intro pins s σ H Q I h
  refine wpAny_Call_Name_kw (ld_blt I hg hm hv ?_ hn hdb)
  exact PyProof.Rows.callWith_builtin1 (thn (ha pos pins s σ H _ I h) fun us s1 ⟨vs, H1, I1, r1, q1⟩ => hc pins s1 σ H1 vs us Q I1 r1 q1) he hpl
/-- T(e, ..), T a built-in type -/
theorem pe_callTy (hc : CallR X (.type T) r) (hg : Gl X x) (hm : X.mg x = none) (hv : bootBuiltins x = some (.type T)) (ha : PA X (e :: es) t) (hn : x ≠ "__name__" := by decide) (hdb : (x == ("__debug__" : Str)) = false := by decide)
    (he : starEach (e :: es) X.env = (false, eval e X.env) :: starEach es X.env := by rfl) (hpl : (backTo pos (starEach es X.env)).any (·.1) = false := by rfl) : PE X (.Call (.Name x p) (e :: es) [] pos) (tCB r t) := by
  intro pins s σ H Q I h
  refine wpAny_Call_Name_kw (ld_blt I hg hm hv ?_ hn hdb)
  exact PyProof.Rows.callWith_type1 (thn (ha pos pins s σ H _ I h) fun us s1 ⟨vs, H1, I1, r1, q1⟩ => hc pins s1 σ H1 vs us Q I1 r1 q1) he hpl
end
end L2

namespace HT
open PySem PyProof.Rows

section
open PySem.SeqAt
open PySem.AutoSeq1 (wpAny_loadPart')
open PySem.MeetsSeq PySem.MeetsSeq2 PySem.MeetsSeq3

end

section
variable {prog : Program} {w : World} {A : Around} {E : Value → Shared → Prop} {s : Shared}

/-- t + u, t not empty -/
theorem cat_tup {t b : Addr} {vs ws : List Value} {Q : Value → Shared → Prop} (ht : IsTup s.heap t vs.toArray) (hb : IsTup s.heap b ws.toArray) (hv : vs ≠ [])
    (h1 : ws = [] → Q (.ref t) s) (h2 : ws ≠ [] → Q (.ref s.heap.objs.size) { s with heap := s.heap.push { cls := .type "tuple", data := .seq (vs ++ ws).toArray } })
    (hsz : vs.length + ws.length ≤ sizeLine) : wpAny (model prog w) A (binaryOp .Add (.ref t) (.ref b)) Q E s := by
  obtain ⟨⟨cls, dd, data, sl⟩, ho, hc, n, hd⟩ := id ht
  obtain ⟨⟨cls2, dd2, data2, sl2⟩, ho2, hc2, n2, hd2⟩ := id hb
  simp only at hc hd hc2 hd2
  subst hc hd hc2 hd2
  have e : vs.toArray ++ ws.toArray = (vs ++ ws).toArray := by simp
  by_cases hw : ws = []
  · exact concat_meets ⟨_, ho, rfl⟩ ⟨_, ho2, rfl⟩ noFill_tuple_add seq_tuple_add PySem.F.slot_tuple_add PySem.F.entry_tuple_add (PySem.F.args_tuple_add_2 _ _)
      (tuple_addW1 t b vs.toArray ws.toArray n n2 dd dd2 sl sl2 (by simpa using hv) (by simp [hw])) ⟨ho, ho2, h1 hw⟩
  · refine concat_meets ⟨_, ho, rfl⟩ ⟨_, ho2, rfl⟩ noFill_tuple_add seq_tuple_add PySem.F.slot_tuple_add PySem.F.entry_tuple_add (PySem.F.args_tuple_add_2 _ _)
      (tuple_addW2 t b vs.toArray ws.toArray n n2 dd dd2 sl sl2 (by simpa using hv) (by simpa using hw) (by rw [List.size_toArray, List.size_toArray]; exact hsz)) ⟨ho, ho2, ?_⟩
    rw [e]
    exact h2 hw

/-! ### t[a:b], not the whole -/
/-- a slice's bound as a place among n (d where it is left out) -/
def sIx (n d : Nat) : Option Int → Nat
  | none => d
  | some v => if v < 0 then (v + (n : Int)).toNat else min v.toNat n
theorem sIx_none (n d : Nat) : sIx n d none = d := rfl
theorem sIx_nat (n d k : Nat) : sIx n d (some (k : Int)) = min k n := by
  show (if (k : Int) < 0 then ((k : Int) + (n : Int)).toNat else min (k : Int).toNat n) = min k n
  rw [if_neg (by omega), Int.toNat_natCast]
theorem sIx_le (n d : Nat) (hd : d ≤ n) (o : Option Int) : sIx n d o ≤ n := by
  cases o with
  | none => exact hd
  | some v =>
    show (if v < 0 then (v + (n : Int)).toNat else min v.toNat n) ≤ n
    by_cases hv : v < 0
    · rw [if_pos hv]; omega
    · rw [if_neg hv]; exact Nat.min_le_right _ _
theorem clip_eq (v : Int) (n d : Nat) : (if v < 0 then max (v + (n : Int)) 0 else min v (n : Int)) = ((sIx n d (some v) : Nat) : Int) := by
  show (if v < 0 then max (v + (n : Int)) 0 else min v (n : Int)) = (((if v < 0 then (v + (n : Int)).toNat else min v.toNat n) : Nat) : Int)
  by_cases hv : v < 0
  · simp only [if_pos hv]; omega
  · simp only [if_neg hv]; omega
theorem adjust_gen (lo hi : Option Int) (n : Nat) : Builtin.Slice.sliceAdjust lo hi 1 (n : Int) = (((sIx n 0 lo : Nat) : Int), ((sIx n n hi : Nat) : Int)) := by
  have h1 : ¬ ((1 : Int) < 0) := by omega
  unfold Builtin.Slice.sliceAdjust
  simp only [h1, if_false]
  refine Prod.ext ?_ ?_
  · cases lo with
    | none => rfl
    | some v => exact clip_eq v n 0
  · cases hi with
    | none => rfl
    | some v => exact clip_eq v n n
theorem places_gen (i j : Nat) : Builtin.Slice.slicePlaces (i : Int) (j : Int) 1 = j - i := by
  unfold Builtin.Slice.slicePlaces
  have h1 : (1 : Int) > 0 := by omega
  simp only [h1, if_true, Int.ediv_one]
  split <;> omega
theorem slicePart_ {v : Value} {o : Option Int} {Q : Option Int → Shared → Prop} (p : IsPart v o) (h : Q o s) : wpAny (model prog w) A (Builtin.Slice.slicePartIndex v) Q E s := by
  cases p with
  | none => exact slicePart_none h
  | int i t => exact slicePart_int h
theorem sliceApplied_gen {sl : Addr} {vl vu : Value} {lo hi : Option Int} {n : Nat} {Q : Int × Int × Nat → Shared → Prop} (hs : s.heap.IsSliceOf sl vl vu .none) (pl : IsPart vl lo) (pu : IsPart vu hi)
    (h : Q (((sIx n 0 lo : Nat) : Int), 1, sIx n n hi - sIx n 0 lo) s) : wpAny (model prog w) A (Builtin.Slice.sliceApplied (.ref sl) (pure (n : Int))) Q E s := by
  obtain ⟨os, hos, hcs, hds⟩ := id hs
  unfold Builtin.Slice.sliceApplied Builtin.Slice.sliceFields
  refine wpAny_bind (wpAny_bind (wpAny_field hos hds (x := vl) rfl (wpAny_bind (wpAny_field hos hds (x := vu) rfl (wpAny_bind (wpAny_field hos hds (x := .none) rfl (wpAny_pure ?_)))))))
  refine wpAny_bind (slicePart_none ?_)
  show wpAny _ _ (if ((1 : Int) == 0) = true then _ else _) _ _ s
  rw [if_neg (by decide)]
  refine wpAny_bind (slicePart_ pl (wpAny_bind (slicePart_ pu (wpAny_bind (wpAny_pure ?_)))))
  show wpAny _ _ (match Builtin.Slice.sliceAdjust lo hi 1 (n : Int) with | (lo, hi) => pure (lo, (1 : Int), Builtin.Slice.slicePlaces lo hi 1)) _ _ s
  rw [adjust_gen lo hi n]
  show wpAny _ _ (pure (((sIx n 0 lo : Nat) : Int), (1 : Int), Builtin.Slice.slicePlaces ((sIx n 0 lo : Nat) : Int) ((sIx n n hi : Nat) : Int) 1)) _ _ s
  rw [places_gen]
  exact wpAny_pure h
theorem pick_gen (xs : Array Value) (i k : Nat) : ((List.range k).filterMap fun (m : Nat) => xs[((i : Int) + (m : Int) * 1).toNat]?).toArray = ((xs.toList.drop i).take k).toArray := by
  have e : (fun (m : Nat) => xs[((i : Int) + (m : Int) * 1).toNat]?) = fun m => xs[i + m]? := by
    funext m
    have : ((i : Int) + (m : Int) * 1).toNat = i + m := by omega
    rw [this]
  rw [e]
  have := pick_run xs i k
  rw [List.filterMap_map] at this
  have e2 : ((fun x => xs[x]?) ∘ fun x => i + x) = fun m => xs[i + m]? := rfl
  rw [e2] at this
  rw [this]

theorem getItem_tuple_cut {t sl : Addr} {items : Array Value} {vl vu : Value} {lo hi : Option Int} {Q : Value → Shared → Prop} (ht : IsTup s.heap t items) (hs : s.heap.IsSliceOf sl vl vu .none) (pl : IsPart vl lo) (pu : IsPart vu hi)
    (hw : ¬ (sIx items.size 0 lo = 0 ∧ sIx items.size items.size hi = items.size))
    (h : Q (.ref s.heap.objs.size) { s with heap := s.heap.push { cls := .type "tuple", data := .seq ((items.toList.drop (sIx items.size 0 lo)).take (sIx items.size items.size hi - sIx items.size 0 lo)).toArray } })
    (hsz : items.size ≤ sizeLine) : wpAny (model prog w) A (getItem (.ref t) (.ref sl)) Q E s := by
  have htake : sizeOk (.seq ((items.toList.drop (sIx items.size 0 lo)).take (sIx items.size items.size hi - sIx items.size 0 lo)).toArray) := by
    show ((items.toList.drop (sIx items.size 0 lo)).take (sIx items.size items.size hi - sIx items.size 0 lo)).toArray.size ≤ sizeLine
    rw [List.size_toArray, List.length_take, List.length_drop, Array.length_toList]
    omega
  have hj : sIx items.size items.size hi ≤ items.size := sIx_le _ _ (Nat.le_refl _) hi
  obtain ⟨os, hos, hcs, hds⟩ := id hs
  have hTs : s.TypeIs (.ref sl) "slice" := ⟨os, hos, hcs⟩
  unfold getItem
  try with_reducible refine wpAny_holding ?_
  first | refine wpAny_bind (wpAny_pure ?_) | skip
  refine wpAny_bind (wpAny_sequenceKey ht.typeIs (by decide) ?_)
  refine wpAny_bind (wpAny_callSpecial?_slot (name := Str.ofString "__getitem__") ht.typeIs PyProof.Rows.slot_tuple_getitem
    (wpAny_call_entry PyProof.Rows.slot_tuple_getitem ht.typeIs entry_tuple_getitem ?_ (args_tuple_getitem _ _)))
  show wpAny _ _ (Builtin.Tuple.tupleItemsOf (.ref t) >>= _) _ _ s
  refine wpAny_bind (tupleItemsOf_ ht ?_)
  refine wpAny_bind (wpAny_typeOf hTs ?_)
  rw [if_pos (by decide)]
  refine wpAny_bind (sliceApplied_gen hs pl pu ?_)
  have hno : ¬ ((((sIx items.size 0 lo : Nat) : Int) == 0 && (1 : Int) == 1 && (sIx items.size items.size hi - sIx items.size 0 lo) == items.size) = true) := by
    intro q
    rw [Bool.and_eq_true, Bool.and_eq_true] at q
    have q1 : ((sIx items.size 0 lo : Nat) : Int) = 0 := eq_of_beq q.1.1
    have q2 : sIx items.size items.size hi - sIx items.size 0 lo = items.size := eq_of_beq q.2
    exact hw ⟨by omega, by omega⟩
  show wpAny _ _ (if (((sIx items.size 0 lo : Nat) : Int) == 0 && (1 : Int) == 1 && (sIx items.size items.size hi - sIx items.size 0 lo) == items.size) = true then _ else _) _ _ s
  rw [if_neg hno, pick_gen]
  first
    | exact wpAny_bind (m := Builtin.Tuple.tupleExact _) (wpAny_newObj_type (wpAny_pure ⟨_, rfl, wpAny_pure h⟩) htake)
    | exact wpAny_bind (m := Builtin.Tuple.tupleExact _) (wpAny_newObj_type (wpAny_bind (wpAny_pure (wpAny_pure ⟨_, rfl, wpAny_pure h⟩))) htake)
    | exact wpAny_bind (wpAny_bind (m := Builtin.Tuple.tupleExact _) (wpAny_newObj_type (wpAny_pure (wpAny_pure ⟨_, rfl, wpAny_pure h⟩)) htake))
    | exact wpAny_bind (wpAny_bind (m := Builtin.Tuple.tupleExact _) (wpAny_newObj_type (wpAny_pure ⟨_, rfl, wpAny_pure h⟩) htake))
end
end HT

namespace L2
open PySem PySem.Spec PyProof.Rows

/-! ### the parts of a slice -/
abbrev TO := St → Hp → (Option Int → Hp → Prop) → Prop
/-- a slice's part (left out, or an int) -/
def PO (X : Cx) (e : Option Expr) (t : TO) : Prop :=
  ∀ (pins : List (Addr × Obj)) (s : Shared) (σ : St) (H : Hp) (Q : Option Int → Hp → Prop), Inv X pins σ H s → t σ H Q →
    wpAny (model X.prog X.w) X.A (evalPart e X.env) (fun u s' => ∃ o H', Inv X pins σ H' s' ∧ IsPart u o ∧ Q o H') X.xe s
def tNoPart : TO := fun _ H Q => Q none H
def tPart (t : TE) : TO := fun σ H Q => t σ H fun x H1 => ∃ i, x = .int i ∧ Q (some i) H1

theorem intsAre_of {ns : List Int} : ∀ {us : List Value}, Vals (ns.map V.int) us → IntsAre us ns := by
  induction ns with
  | nil => intro us r; rw [List.map_nil] at r; cases r; exact .nil
  | cons n ns ih =>
    intro us r
    rw [List.map_cons] at r
    cases r with
    | cons r1 r2 =>
      obtain ⟨t, e⟩ := r1
      subst e
      exact .cons n t (ih r2)

section
variable {X : Cx} {e : Expr} {te : TE} {lo hi : Option Expr} {tl th : TO} {pos p2 : Pos}

theorem po_none : PO X none tNoPart := by
  intro pins s σ H Q I h
  rw [evalPart_none]
  exact wpAny_pure ⟨none, H, I, .none, h⟩
theorem po_some (h : PE X e te) : PO X (some e) (tPart te) := by
  intro pins s σ H Q I hw
  rw [evalPart_some]
  refine thn (h pins s σ H _ I hw) fun u s1 ⟨x, H1, I1, r1, q1⟩ => ?_
  obtain ⟨i, rfl, q⟩ := q1
  obtain ⟨t, rfl⟩ := r1
  exact ⟨some i, H1, I1, .int i t, q⟩

/-- what a slice of a value is, by values: the slice object stands at sl -/
def SlR (X : Cx) (r : V → Option Int → Option Int → Hp → VK → Prop) : Prop :=
  ∀ (pins : List (Addr × Obj)) (s : Shared) (σ : St) (H : Hp) (x : V) (v vl vu : Value) (lo hi : Option Int) (sl : Addr) (Q : VK), Inv X pins σ H s → RelV x v → s.heap.IsSliceOf sl vl vu .none → IsPart vl lo → IsPart vu hi → r x lo hi H Q →
    ∃ T id, typeLookup (.type T) "__getitem__" = pure (some (.builtin id)) ∧ s.TypeIs v T ∧ wpAny (model X.prog X.w) X.A (getItem v (.ref sl)) (EP X pins σ Q) X.xe s
theorem SlR.or {r r' : V → Option Int → Option Int → Hp → VK → Prop} (h : SlR X r) (h' : SlR X r') : SlR X (fun x lo hi H Q => r x lo hi H Q ∨ r' x lo hi H Q) := by
  intro pins s σ H x v vl vu lo hi sl Q I rx hs pl pu q
  rcases q with q | q
  · exact h pins s σ H x v vl vu lo hi sl Q I rx hs pl pu q
  · exact h' pins s σ H x v vl vu lo hi sl Q I rx hs pl pu q
def tSl (r : V → Option Int → Option Int → Hp → VK → Prop) (te : TE) (tl th : TO) : TE := fun σ H Q => te σ H fun x H1 => tl σ H1 fun l H2 => th σ H2 fun u H3 => r x l u H3 Q
/-- a[lo:hi], any a -/
theorem pe_slice {r : V → Option Int → Option Int → Hp → VK → Prop} (hr : SlR X r) (he : PE X e te) (hl : PO X lo tl) (hu : PO X hi th) : PE X (.Subscript e (.Slice lo hi none p2) pos) (tSl r te tl th) := by
  intro pins s σ H Q I h
  refine Subscript_ (thn (he pins s σ H _ I h) fun v s1 ⟨x, H1, I1, r1, q1⟩ => ?_)
  refine wpAny_Slice (thn (hl pins s1 σ H1 _ I1 q1) fun vl s2 ⟨l, H2, I2, pl, q2⟩ => thn (hu pins s2 σ H2 _ I2 q2) fun vu s3 ⟨u, H3, I3, pu, q3⟩ => ?_)
  rw [evalPart_none]
  refine wpAny_pure ?_
  have I4 : Inv X pins σ H3 { s3 with heap := s3.heap.push { cls := .type "slice", data := .fields #[vl, vu, .none] } } := I3.kept (t' := s3.toks) fun b ob q => Heap.get?_push_of_some _ q
  obtain ⟨T, id, hT, ht, hg⟩ := hr pins { s3 with heap := s3.heap.push { cls := .type "slice", data := .fields #[vl, vu, .none] } } σ H3 x v vl vu l u s3.heap.objs.size Q I4 r1 (Heap.IsSliceOf.new ..) pl pu q3
  show wpAny (model X.prog X.w) X.A (subscriptTail e (.Slice lo hi none p2) v (.ref s3.heap.objs.size)) (EP X pins σ Q) X.xe { s3 with heap := s3.heap.push { cls := .type "slice", data := .fields #[vl, vu, .none] } }
  exact tail_any (ops := [.ref s3.heap.objs.size, v]) ht hT hg (by with_unfolding_all rfl)

/-- the items of xs[lo:hi] -/
def cutV (xs : List V) (lo hi : Option Int) : List V := (xs.drop (HT.sIx xs.length 0 lo)).take (HT.sIx xs.length xs.length hi - HT.sIx xs.length 0 lo)
theorem cutV_length (xs : List V) (lo hi : Option Int) : (cutV xs lo hi).length ≤ xs.length := by
  unfold cutV
  rw [List.length_take, List.length_drop]
  omega
/-- t[lo:hi], not the whole of it (the whole would be t itself) -/
def rSlT (K : PySem.W.Frag) : V → Option Int → Option Int → Hp → VK → Prop := fun x lo hi H Q => ∃ a xs, x = .ref a ∧ SqT K H a xs ∧
  ¬ (HT.sIx xs.length 0 lo = 0 ∧ HT.sIx xs.length xs.length hi = xs.length) ∧ ∀ p, H p = none → Q (.ref p) (upd H p (.tup (cutV xs lo hi)))
theorem sl_tup : SlR X (rSlT X.K) := by
  intro pins s σ H x v vl vu lo hi sl Q I rx hs pl pu h
  obtain ⟨a, xs, rfl, hx, hw, q⟩ := h
  cases rx
  obtain ⟨its, r, ht, hz⟩ := I.tuple hx
  have hlen : its.toArray.size = xs.length := by rw [List.size_toArray]; exact r.length.symm
  refine ⟨"tuple", _, PyProof.Rows.slot_tuple_getitem.lookup, ht.typeIs, ?_⟩
  refine HT.getItem_tuple_cut ht hs pl pu (by rw [hlen]; exact hw) ?_ (by rw [hlen]; exact hz)
  rw [hlen]
  refine ⟨.ref s.heap.objs.size, _, I.laid (t' := s.toks) (o := .tup (cutV xs lo hi)) (fun b ob q => Heap.get?_push_of_some _ q) (Nat.le_refl _) ?_, rfl, q _ (I.hok.fresh (Nat.le_refl _))⟩
  exact ⟨Nat.le_trans (cutV_length xs lo hi) hz, _, (r.drop (HT.sIx xs.length 0 lo)).take (HT.sIx xs.length xs.length hi - HT.sIx xs.length 0 lo), IsTup.new _ _⟩

/-! ### t < u, t + u -/
/-- t + u, t not empty: u empty gives t itself -/
def rCatT (K : PySem.W.Frag) : R2 := fun x y H Q => ∃ a b xs ys, x = .ref a ∧ y = .ref b ∧ SqT K H a xs ∧ SqT K H b ys ∧ xs ≠ [] ∧ xs.length + ys.length ≤ sizeLine ∧
  (ys = [] → Q (.ref a) H) ∧ (ys ≠ [] → ∀ p, H p = none → Q (.ref p) (upd H p (.tup (xs ++ ys))))
theorem Vals.nil_iff {xs : List V} {us : List Value} (r : Vals xs us) : us = [] ↔ xs = [] := by
  cases r with
  | nil => simp
  | cons _ _ => simp
theorem op_catT : OpR X (binaryOp .Add) (rCatT X.K) := by
  intro pins s σ H x y v u Q I rx ry h
  obtain ⟨a, b, xs, ys, rfl, rfl, ha, hb, hx, hz, q1, q2⟩ := h
  cases rx
  cases ry
  obtain ⟨its, r1, p1, _⟩ := I.tuple ha
  obtain ⟨its2, r2, p2, _⟩ := I.tuple hb
  refine HT.cat_tup p1 p2 (fun z => hx (r1.nil_iff.mp z)) (fun z => ⟨.ref a, H, I, rfl, q1 (r2.nil_iff.mp z)⟩) (fun z => ?_) (by rw [← r1.length, ← r2.length]; exact hz)
  refine ⟨.ref s.heap.objs.size, _, I.laid (t' := s.toks) (o := .tup (xs ++ ys)) (fun b ob q => Heap.get?_push_of_some _ q) (Nat.le_refl _) ?_, rfl, q2 (fun w => z (r2.nil_iff.mpr w)) _ (I.hok.fresh (Nat.le_refl _))⟩
  exact ⟨by rw [List.length_append]; exact hz, _, r1.append r2, IsTup.new _ _⟩
end
end L2

namespace L2
open PySem PySem.Spec PyProof.Rows

/-! ### places -/
/-- the place that an index of any sign means -/
def ixN (n : Nat) (i : Int) : Option Nat := if 0 ≤ i then (if i < n then some i.toNat else none) else if -(n : Int) ≤ i then some (i + n).toNat else none
def atI {α : Type} (xs : List α) (i : Int) : Option α := (ixN xs.length i).bind fun j => xs[j]?
theorem ixN_seq {n : Nat} {i : Int} {j : Nat} (h : ixN n i = some j) : seqIndex? i n = some j ∧ j < n ∧ -(n : Int) ≤ i ∧ i < n := by
  unfold ixN at h
  by_cases h0 : 0 ≤ i
  · rw [if_pos h0] at h
    by_cases h1 : i < n
    · rw [if_pos h1] at h
      have e : i.toNat = j := Option.some.inj h
      exact ⟨by rw [seqIndex_of h0 h1, e], by omega, by omega, h1⟩
    · rw [if_neg h1] at h; cases h
  · rw [if_neg h0] at h
    by_cases h1 : -(n : Int) ≤ i
    · rw [if_pos h1] at h
      have e : (i + n).toNat = j := Option.some.inj h
      exact ⟨by rw [seqIndex_neg (by omega) h1, e], by omega, h1, by omega⟩
    · rw [if_neg h1] at h; cases h
theorem atI_get {α : Type} {xs : List α} {i : Int} {v : α} (h : atI xs i = some v) : ∃ j, seqIndex? i xs.length = some j ∧ xs[j]? = some v ∧ j < xs.length ∧ -(xs.length : Int) ≤ i ∧ i < xs.length := by
  unfold atI at h
  cases e : ixN xs.length i with
  | none => rw [e] at h; cases h
  | some j =>
    rw [e] at h
    obtain ⟨h1, h2, h3, h4⟩ := ixN_seq e
    exact ⟨j, h1, h, h2, h3, h4⟩
theorem atI_nat {α : Type} {xs : List α} {j : Nat} {v : α} (h : xs[j]? = some v) : atI xs (j : Int) = some v := by
  have hj : j < xs.length := (List.getElem?_eq_some_iff.mp h).1
  have e : ixN xs.length (j : Int) = some j := by
    unfold ixN
    rw [if_pos (by omega), if_pos (by omega)]; simp
  unfold atI; rw [e]; exact h
/-! ### what may be subscripted -/
/-- what stands as an index of a plain subscript -/
def PlainIx (b : Expr) : Prop := ∀ o i, subscripted b false o i = operate [o, i] (getItem o i)
/-- a subscript by values -/
def IxR (X : Cx) (r : R2) : Prop :=
  ∀ (value slice : Expr) (pins : List (Addr × Obj)) (s : Shared) (σ : St) (H : Hp) (x y : V) (v u : Value) (Q : VK), Inv X pins σ H s → RelV x v → RelV y u → r x y H Q →
    subscripted slice false v u = operate [v, u] (getItem v u) → wpAny (model X.prog X.w) X.A (subscriptTail value slice v u) (EP X pins σ Q) X.xe s
/-- a call of a builtin's method by values: the receiver, the arguments -/
def MtR (X : Cx) (id : String) (r : V → List V → Hp → VK → Prop) : Prop :=
  ∀ (pins : List (Addr × Obj)) (s : Shared) (σ : St) (H : Hp) (x : V) (xs : List V) (v : Value) (us : List Value) (Q : VK), Inv X pins σ H s → RelV x v → Vals xs us → r x xs H Q →
    wpAny (model X.prog X.w) X.A (call (.builtin id) (v :: us)) (EP X pins σ Q) X.xe s
section
variable {X : Cx} {a b : Expr} {ta tb : TE} {pos : Pos}
theorem IxR.or {r r' : R2} (h : IxR X r) (h' : IxR X r') : IxR X (fun x y H Q => r x y H Q ∨ r' x y H Q) := by
  intro value slice pins s σ H x y v u Q I rx ry q hs
  rcases q with q | q
  · exact h value slice pins s σ H x y v u Q I rx ry q hs
  · exact h' value slice pins s σ H x y v u Q I rx ry q hs
theorem MtR.or {id : String} {r r' : V → List V → Hp → VK → Prop} (h : MtR X id r) (h' : MtR X id r') : MtR X id (fun x xs H Q => r x xs H Q ∨ r' x xs H Q) := by
  intro pins s σ H x xs v us Q I rx rs q
  rcases q with q | q
  · exact h pins s σ H x xs v us Q I rx rs q
  · exact h' pins s σ H x xs v us Q I rx rs q
/-- a[b] -/
theorem pe_ix {r : R2} (hr : IxR X r) (ha : PE X a ta) (hb : PE X b tb) (hs : PlainIx b) : PE X (.Subscript a b pos) (tOp r ta tb) := by
  intro pins s σ H Q I h
  exact Subscript_ (binT ha hb I h fun v u s2 x y H2 I2 rx ry q => hr a b pins s2 σ H2 x y v u Q I2 rx ry q (hs _ _))

def rIxL (K : PySem.W.Frag) : R2 := fun x y H Q => ∃ p xs i v, x = .ref p ∧ y = .int i ∧ SqL K H p xs ∧ atI xs i = some v ∧ Q v H
def rIxT (K : PySem.W.Frag) : R2 := fun x y H Q => ∃ p xs i v, x = .ref p ∧ y = .int i ∧ SqT K H p xs ∧ atI xs i = some v ∧ Q v H
theorem ix_list : IxR X (rIxL X.K) := by
  intro value slice pins s σ H x y v u Q I rx ry h hs
  obtain ⟨p, xs, i, z, rfl, rfl, hq, he, q⟩ := h
  cases rx
  obtain ⟨t, rfl⟩ := ry
  obtain ⟨its, r, pl, hz⟩ := I.list hq
  obtain ⟨j, h1, h2, h3, h4, h5⟩ := atI_get he
  obtain ⟨w, ew, rw'⟩ := r.get h2
  have hl := r.length
  have hn := line63
  have fin : EP X pins σ Q w s := ⟨z, H, I, rw', q⟩
  by_cases h0 : 0 ≤ i
  · have hj : i.toNat = j := by
      rw [seqIndex_of h0 h5] at h1
      exact Option.some.inj h1
    exact item_listR pl.isList h0 (by omega) (by rw [hj]; simpa using ew) fin hs
  · have hj : (i + (its.toArray.size : Int)).toNat = j := by
      rw [seqIndex_neg (by omega) h4] at h1
      rw [List.size_toArray, ← hl]
      exact Option.some.inj h1
    exact subscriptTail_builtinR (x := w) pl.isList.typeIs slot_list_getitem.lookup
      (wpAny_getItem_list_neg (Q := fun r s' => r = w ∧ EP X pins σ Q r s') pl.isList (by omega) (by rw [List.size_toArray] <;> omega) (by omega) (by rw [hj]; simpa using ew) ⟨rfl, fin⟩) hs
theorem ix_tup : IxR X (rIxT X.K) := by
  intro value slice pins s σ H x y v u Q I rx ry h hs
  obtain ⟨p, xs, i, z, rfl, rfl, hq, he, q⟩ := h
  cases rx
  obtain ⟨t, rfl⟩ := ry
  obtain ⟨its, r, pl, hz⟩ := I.tuple hq
  obtain ⟨j, h1, h2, h3, h4, h5⟩ := atI_get he
  obtain ⟨w, ew, rw'⟩ := r.get h2
  have hl := r.length
  have hn := line63
  have fin : EP X pins σ Q w s := ⟨z, H, I, rw', q⟩
  exact subscriptTail_builtinR (x := w) pl.typeIs slot_tuple_getitem.lookup
    (getItem_tuple (j := j) (Q := fun r s' => r = w ∧ EP X pins σ Q r s') pl (by omega) (by omega) (by rw [List.size_toArray, ← hl]; exact h1) (by simpa using ew) ⟨rfl, fin⟩) hs
/-! ### xs[i] = v, any sign -/
/-- the list's object behind a store -/
theorem mapSeq_set (its : List Value) (n j : Nat) (u : Value) : Obj.mapSeq (·.setIfInBounds j u) { cls := .type "list", data := .seq its.toArray n } = { cls := .type "list", data := .seq (its.set j u).toArray n } := by
  simp [Obj.mapSeq]
theorem Inv.lst {pins : List (Addr × Obj)} {σ : St} {H : Hp} {s : Shared} {p : Addr} {xs : List V} (I : Inv X pins σ H s) (h : H p = some (.lst xs)) :
    ∃ (its : List Value) (n : Nat), Vals xs its ∧ s.heap.get? p = some { cls := .type "list", data := .seq its.toArray n } ∧ xs.length ≤ sizeLine := by
  obtain ⟨z, its, n, r, e⟩ := I.hok p _ h
  exact ⟨its, n, r, e, z⟩
/-- the list at p is written by an update of its object -/
theorem Inv.lstUpd {pins : List (Addr × Obj)} {σ : St} {H : Hp} {s : Shared} {p : Addr} {xs ys : List V} {its its' : List Value} {n n' : Nat} {f : Obj → Obj} (I : Inv X pins σ H s) (h : H p = some (.lst xs))
    (ho : s.heap.get? p = some { cls := .type "list", data := .seq its.toArray n }) (hf : f { cls := .type "list", data := .seq its.toArray n } = { cls := .type "list", data := .seq its'.toArray n' }) (r : Vals ys its') (hz : ys.length ≤ sizeLine) (t : Nat) :
    Inv X pins σ (upd H p (.lst ys)) { s with heap := s.heap.update p f, toks := t } := by
  have e : (s.heap.update p f).get? p = some { cls := .type "list", data := .seq its'.toArray n' } := by
    rw [Heap.get?_update_self f ho (by rw [hf] <;> rfl), hf]
  refine I.write (x := p) (e := p) (by rw [h]; trivial) (.inl rfl) (fun b u hb q => (Heap.get?_update_other _ _ (Ne.symm hb)).trans q) ⟨_, e⟩ ?_
  exact ⟨hz, its', n', r, e⟩
def rSetL : V → V → V → Hp → (Hp → Prop) → Prop := fun o i v H Q => ∃ p xs k j, o = .ref p ∧ i = .int k ∧ H p = some (.lst xs) ∧ ixN xs.length k = some j ∧ Q (upd H p (.lst (xs.set j v)))
theorem set_list : PSet X rSetL := by
  intro pins s σ H o i v ov iv u Q I ro ri rv h
  obtain ⟨p, xs, k, j, rfl, rfl, hp, hj, q⟩ := h
  cases ro
  obtain ⟨t, rfl⟩ := ri
  obtain ⟨its, n, r, ho, hz⟩ := I.lst hp
  obtain ⟨h1, h2, h3, h4⟩ := ixN_seq hj
  have hl := r.length
  have hn := line63
  have I' : Inv X pins σ (upd H p (.lst (xs.set j v))) { s with heap := s.heap.update p (Obj.mapSeq (·.setIfInBounds j u)) } :=
    I.lstUpd hp ho (mapSeq_set its n j u) (r.set rv j) (by rw [List.length_set]; exact hz) s.toks
  by_cases h0 : 0 ≤ k
  · have hk : k.toNat = j := by
      rw [seqIndex_of h0 h4] at h1
      exact Option.some.inj h1
    exact PySem.W.ki_setAt ho h0 (by omega) (by rw [List.size_toArray, ← hl]; exact h4) (by rw [hk]; exact ⟨_, I', q⟩)
  · have hk : (k + (its.toArray.size : Int)).toNat = j := by
      rw [seqIndex_neg (by omega) h3] at h1
      rw [List.size_toArray, ← hl]
      exact Option.some.inj h1
    exact PySem.W.ki_setBack ho (by omega) (by rw [List.size_toArray, ← hl]; exact h3) (by omega) (by rw [hk]; exact ⟨_, I', q⟩)

/-! ### slices -/
/-! ### in, not in: flat items -/
/-! ### len, list(x), tuple(x) of any list or tuple that is read -/
theorem call_len_seq : CallR X (.builtin "len") (fun xs H Q => ∃ p ys, xs = [.ref p] ∧ (SqL X.K H p ys ∨ SqT X.K H p ys) ∧ Q (.int ys.length) H) := by
  intro pins s σ H xs us Q I r h
  obtain ⟨p, ys, rfl, hq, q⟩ := h
  obtain ⟨u, rfl, rx⟩ := vals1 r
  cases rx
  have hn := line63
  rcases hq with hq | hq
  · obtain ⟨its, r', pl, hz⟩ := I.list hq
    have hlen := r'.length
    exact Calls.call_len_list pl.isList (by simp only [List.size_toArray] <;> omega) ⟨.int ys.length, H, I.tok _, ⟨s.toks + 1, by rw [List.size_toArray, hlen]⟩, q⟩
  · obtain ⟨its, r', pl, hz⟩ := I.tuple hq
    have hlen := r'.length
    exact len_tuple pl (by simp only [List.size_toArray] <;> omega) ⟨.int ys.length, H, I.tok _, ⟨s.toks + 1, by rw [List.size_toArray, hlen]⟩, q⟩
theorem CallR.or {f : Value} {r r' : List V → Hp → VK → Prop} (h : CallR X f r) (h' : CallR X f r') : CallR X f (fun xs H Q => r xs H Q ∨ r' xs H Q) := by
  intro pins s σ H xs us Q I rs q
  rcases q with q | q
  · exact h pins s σ H xs us Q I rs q
  · exact h' pins s σ H xs us Q I rs q
theorem call_tuple_of : CallR X (.type "tuple") (fun xs H Q => ∃ p ys, xs = [.ref p] ∧ ((SqL X.K H p ys ∧ ∀ l, H l = none → Q (.ref l) (upd H l (.tup ys))) ∨ (SqT X.K H p ys ∧ Q (.ref p) H))) := by
  intro pins s σ H xs us Q I r h
  obtain ⟨p, ys, rfl, h⟩ := h
  obtain ⟨u, rfl, rx⟩ := vals1 r
  cases rx
  rcases h with ⟨hq, q⟩ | ⟨hq, q⟩
  · obtain ⟨its, r', pl, hz⟩ := I.list hq
    have hlen := r'.length
    refine call_tuple_list pl.isList (fun h' kp => ?_) (by simp only [List.size_toArray] <;> omega)
    have I1 : Inv X pins σ H { s with heap := h' } := I.kept (t' := s.toks) kp
    have I2 : Inv X pins σ (upd H h'.objs.size (.tup ys)) { s with heap := h'.push { cls := .type "tuple", data := .seq its.toArray } } :=
      I1.laid (t' := s.toks) (fun b o e => Heap.get?_push_of_some _ e) (Nat.le_refl _) (show ObjOk X.prog X.w _ _ _ (.tup ys) from ⟨hz, its, r', IsTup.new _ _⟩)
    exact ⟨.ref h'.objs.size, _, I2, rfl, q _ (I1.hok.fresh (Nat.le_refl _))⟩
  · obtain ⟨its, r', pl, hz⟩ := I.tuple hq
    exact call_tuple_same pl ⟨.ref p, H, I, rfl, q⟩

/-! ### the call of a builtin's method: o.m(..) -/
/-- the value is of that builtin type -/
def tyV (K : PySem.W.Frag) (T : String) (x : V) (H : Hp) : Prop := match x with
  | .str _ => T = "str"
  | .int _ => T = "int"
  | .ref p => (T = "list" ∧ ∃ xs, SqL K H p xs) ∨ (T = "tuple" ∧ ∃ o, K.lookup p = some o ∧ o.cls = .type "tuple" ∧ o.dict = none) ∨
      (T = "dict" ∧ ((∃ kvs, H p = some (.dK kvs)) ∨ ∃ kvs, H p = some (.dT kvs))) ∨ (T = "set" ∧ ∃ S n, H p = some (.set S n))
  | _ => False
theorem tyV_is {pins : List (Addr × Obj)} {σ : St} {H : Hp} {s : Shared} {T : String} {x : V} {v : Value} (I : Inv X pins σ H s) (r : RelV x v) (ty : tyV X.K T x H) :
    s.TypeIs v T ∧ ∀ a, v = .ref a → ∃ ob, s.heap.get? a = some ob ∧ ob.dict = none := by
  cases x with
  | str z =>
    obtain ⟨t, rfl⟩ := r
    cases (show T = "str" from ty)
    exact ⟨typeIs_str s z t, fun _ e => nomatch e⟩
  | int i =>
    obtain ⟨t, rfl⟩ := r
    cases (show T = "int" from ty)
    exact ⟨typeIs_int s i t, fun _ e => nomatch e⟩
  | ref p =>
    cases r
    rcases ty with ⟨rfl, xs, hq⟩ | ⟨rfl, o, hk, hc, hd⟩ | ⟨rfl, hk⟩ | ⟨rfl, S, n, hk⟩
    · obtain ⟨its, _, pl, _⟩ := I.list hq
      refine ⟨pl.isList.typeIs, fun a e => ?_⟩
      cases e
      obtain ⟨o, n, e, c, hd, _⟩ := pl
      exact ⟨o, e, hd⟩
    · refine ⟨⟨o, I.kIn p o hk, hc⟩, fun a e => ?_⟩
      cases e
      exact ⟨o, I.kIn _ o hk, hd⟩
    · have z : ∃ o, s.heap.get? p = some o ∧ o.ExactDict := by
        rcases hk with ⟨kvs, hk⟩ | ⟨kvs, hk⟩
        · obtain ⟨_, _, _, _, o, _, _, e, ex, _⟩ := I.hok p _ hk
          exact ⟨o, e, ex⟩
        · obtain ⟨_, _, _, _, o, _, _, e, ex, _⟩ := I.hok p _ hk
          exact ⟨o, e, ex⟩
      obtain ⟨o, e, ex⟩ := z
      refine ⟨⟨o, e, ex.1⟩, fun a e2 => ?_⟩
      cases e2
      exact ⟨o, e, ex.2.1⟩
    · obtain ⟨o, _, _, _, e, ex, _⟩ := I.hok p _ hk
      refine ⟨⟨o, e, ex.1⟩, fun a e2 => ?_⟩
      cases e2
      exact ⟨o, e, ex.2.1⟩
  | _ => exact False.elim ty
def tBM0 (K : PySem.W.Frag) (T : String) (r : V → List V → Hp → VK → Prop) (to : TE) : TE := fun σ H Q => to σ H fun x H1 => tyV K T x H1 ∧ r x [] H1 Q
def tBM (K : PySem.W.Frag) (T : String) (r : V → List V → Hp → VK → Prop) (to : TE) (t : TA) : TE := fun σ H Q => to σ H fun x H1 => tyV K T x H1 ∧ t σ H1 fun xs H2 => r x xs H2 Q
variable {o e : Expr} {es : List Expr} {to : TE} {t : TA} {name : Str} {apos cpos : Pos} {T id : String} {r : V → List V → Hp → VK → Prop}
theorem pe_bm0 (pa : PlainAttrs T) (slot : Slot T name id) (hty : typeOf (.builtin id) = pure (.type "method_descriptor")) (hm : MtR X id r) (ho : PE X o to)
    (hbase : attributeBase o name X.env (eval o X.env) = eval o X.env := by rfl) (hline : (apos.endLine == cpos.line) = true := by rfl) : PE X (.Call (.Attribute o name apos) [] [] cpos) (tBM0 X.K T r to) := by
  intro pins s σ H Q I h
  refine wpAny_Call_method0_late hbase hline (thn (ho pins s σ H _ I h) fun v s1 ⟨x, H1, I1, r1, ty, q1⟩ => ?_)
  obtain ⟨h1, h2⟩ := tyV_is I1 r1 ty
  exact ⟨T, id, pa, slot, hty, h1, h2, Calls.callWith_builtin rfl (PySem.evalArgs_none (hm pins s1 σ H1 x [] v [] Q I1 r1 .nil q1))⟩
theorem pe_bm (pa : PlainAttrs T) (slot : Slot T name id) (hty : typeOf (.builtin id) = pure (.type "method_descriptor")) (hm : MtR X id r) (ho : PE X o to) (ha : PA X (e :: es) t)
    (hbase : attributeBase o name X.env (eval o X.env) = eval o X.env := by rfl)
    (hfew : ((backTo cpos (starEach (e :: es) X.env)).all (fun x => !x.1) && (backToKw cpos (keywordEach [] X.env)).all (fun x => x.1.isSome)
      && decide ((e :: es).length + ([] : List Keyword).length + (if ([] : List Keyword).isEmpty then 0 else 1) < 30)) = true := by rfl)
    (hline : (apos.endLine == cpos.line) = true := by rfl) (hs : starEach (e :: es) X.env = (false, eval e X.env) :: starEach es X.env := by rfl) (hplain : (backTo cpos (starEach es X.env)).any (·.1) = false := by rfl) :
    PE X (.Call (.Attribute o name apos) (e :: es) [] cpos) (tBM X.K T r to t) := by
  intro pins s σ H Q I h
  refine wpAny_Call_method_late hbase hfew hline rfl (thn (ho pins s σ H _ I h) fun v s1 ⟨x, H1, I1, r1, ty, q1⟩ => ?_)
  obtain ⟨h1, h2⟩ := tyV_is I1 r1 ty
  refine ⟨T, id, pa, slot, hty, h1, h2, ?_⟩
  have hA := ha cpos pins s1 σ H1 _ I1 q1
  rw [hs] at hA ⊢
  refine Calls.callWith_builtin (by show (false || (backTo cpos (starEach es X.env)).any (·.1)) = false; rw [hplain] <;> rfl) (Calls.evalArgs_plain ?_)
  exact thn hA fun us s2 ⟨vs, H2, I2, r2, q2⟩ => hm pins s2 σ H2 x vs v us Q I2 r1 r2 q2
/- xs.append(e), list.index on a module's tuple .. are MtR facts of 06m -/
end
end L2

namespace L2
open PySem PySem.Spec PyProof.Rows

def MtM (X : Cx) (id : String) (r : V → List V → Hp → VK → Prop) : Prop :=
  ∀ (pins : List (Addr × Obj)) (s : Shared) (σ : St) (H : Hp) (x : V) (xs : List V) (v : Value) (us : List Value) (Q : VK), Inv X pins σ H s → RelV x v → Vals xs us → r x xs H Q →
    wpAny (model X.prog X.w) X.A (call (.builtin id) (v :: us)) (EP X pins σ Q) X.xe s

/-! ### lists of values -/
theorem Vals.one : ∀ {x : V} {us : List Value}, Vals [x] us → ∃ u, us = [u] ∧ RelV x u
  | _, _, .cons r .nil => ⟨_, rfl, r⟩
theorem Vals.two : ∀ {x y : V} {us : List Value}, Vals [x, y] us → ∃ u v, us = [u, v] ∧ RelV x u ∧ RelV y v
  | _, _, _, .cons r (.cons q .nil) => ⟨_, _, rfl, r, q⟩
theorem Vals.zero : ∀ {us : List Value}, Vals [] us → us = []
  | _, .nil => rfl
theorem Vals.eraseIdx : ∀ {xs : List V} {us : List Value} (i : Nat), Vals xs us → Vals (xs.eraseIdx i) (us.eraseIdx i)
  | _, _, _, .nil => .nil
  | _, _, 0, .cons _ t => t
  | _, _, i + 1, .cons r t => .cons r (Vals.eraseIdx i t)
theorem Vals.reverse {xs : List V} {us : List Value} (h : Vals xs us) : Vals xs.reverse us.reverse := by
  induction h with
  | nil => exact .nil
  | cons r t ih => rw [List.reverse_cons, List.reverse_cons]; exact Vals.append ih (.cons r .nil)
theorem Vals.rep {xs : List V} {us : List Value} (h : Vals xs us) : ∀ k : Nat, Vals (List.replicate k xs).flatten (List.replicate k us).flatten
  | 0 => .nil
  | k + 1 => by
    rw [List.replicate_succ, List.replicate_succ, List.flatten_cons, List.flatten_cons]
    exact Vals.append h (Vals.rep h k)
theorem foldl_rep (its : List Value) : ∀ (k : Nat) (acc : List Value),
    List.foldl (fun x1 x2 => x1 ++ x2) acc.toArray (List.replicate k its.toArray) = (acc ++ (List.replicate k its).flatten).toArray
  | 0, acc => by simp
  | k + 1, acc => by
    have e : acc.toArray ++ its.toArray = (acc ++ its).toArray := by simp
    have e2 : (acc ++ its) ++ (List.replicate k its).flatten = acc ++ (List.replicate (k + 1) its).flatten := by
      rw [List.replicate_succ, List.flatten_cons, List.append_assoc]
    rw [← e2, ← foldl_rep its k (acc ++ its), ← e, List.replicate_succ, List.foldl_cons]

section
variable {X : Cx} {pins : List (Addr × Obj)} {σ : St} {H : Hp} {s : Shared} {l b : Addr} {xs ys zs : List V}

/-! ### the two steps: a tracked list is rewritten, a new list is laid -/
theorem Inv.lset {its its' : List Value} {n : Nat} {f : Array Value → Array Value} {t' : Nat} (I : Inv X pins σ H s) (hH : H l = some (.lst xs))
    (e : s.heap.get? l = some { cls := .type "list", data := .seq its.toArray n }) (hf : f its.toArray = its'.toArray) (hv : Vals ys its') (hz : ys.length ≤ sizeLine) :
    Inv X pins σ (upd H l (.lst ys)) { s with heap := s.heap.update l (Obj.mapSeq f), toks := t' } := by
  have q := PySem.IsL.update e f
  rw [hf] at q
  refine I.write (x := l) (e := l) (by rw [hH]; exact trivial) (.inl rfl) (fun b' u hb hu => (Heap.get?_update_other s.heap (Obj.mapSeq f) (Ne.symm hb)).trans hu) ⟨_, q⟩ ?_
  exact ⟨hz, its', _, hv, q⟩
theorem Inv.lnew {its : List Value} {t' : Nat} (I : Inv X pins σ H s) (hv : Vals ys its) (hz : ys.length ≤ sizeLine) :
    Inv X pins σ (upd H s.heap.objs.size (.lst ys)) { s with heap := s.heap.push { cls := .type "list", data := .seq its.toArray }, toks := t' } :=
  I.laid (fun _ _ q => Heap.get?_push_of_some _ q) (Nat.le_refl _) ⟨hz, its, 0, hv, Heap.get?_push_size _ rfl⟩
theorem Inv.fresh (I : Inv X pins σ H s) : H s.heap.objs.size = none := I.hok.fresh (Nat.le_refl _)
theorem Inv.lstM (I : Inv X pins σ H s) (hH : H l = some (.lst xs)) : xs.length ≤ sizeLine ∧ ∃ (its : List Value) (n : Nat), Vals xs its ∧ xs.length = its.length ∧ s.heap.get? l = some { cls := .type "list", data := .seq its.toArray n } := by
  obtain ⟨z, its, n, r, e⟩ := I.hok l _ hH
  exact ⟨z, its, n, r, r.length, e⟩

theorem notLongL {n : Nat} (h : n ≤ sizeLine) : Builtin.List.listTooLong n = false := by
  unfold Builtin.List.listTooLong
  exact decide_eq_false (by omega)
end

section
variable {X : Cx}

/-! ### methods -/
def rAppend : V → List V → Hp → VK → Prop := fun x vs H Q => ∃ l xs y, x = .ref l ∧ vs = [y] ∧ H l = some (.lst xs) ∧ xs.length < sizeLine ∧ Q .non (upd H l (.lst (xs ++ [y])))
theorem mt_append : MtM X "list.append" rAppend := by
  intro pins s σ H x vs v us Q I rx rv h
  obtain ⟨l, xs, y, rfl, rfl, hH, hz, q⟩ := h
  cases rx
  obtain ⟨u, rfl, ru⟩ := rv.one
  obtain ⟨z, its, n, r, hl, e⟩ := I.lstM hH
  refine call_meets F.slot_list_append ⟨_, e, rfl⟩ F.entry_list_append (F.args_list_append_2 _ _) (PySem.list_append l its.toArray n u (by rw [List.size_toArray]; omega)) ⟨e, ?_⟩
  refine ⟨.non, _, I.lset (its' := its ++ [u]) hH e (by simp) (r.append (.cons ru .nil)) ?_, rfl, q⟩
  rw [List.length_append, List.length_singleton]
  omega

/-! ### list + list, list += list, list * int -/
def rCat : R2 := fun x y H Q => ∃ l b xs zs, x = .ref l ∧ y = .ref b ∧ H l = some (.lst xs) ∧ H b = some (.lst zs) ∧ xs.length + zs.length ≤ sizeLine ∧ ∀ p, H p = none → Q (.ref p) (upd H p (.lst (xs ++ zs)))
theorem op_cat : OpR X (binaryOp .Add) rCat := by
  intro pins s σ H x y v u Q I rx ry h
  obtain ⟨l, b, xs, zs, rfl, rfl, hH, hB, hz, q⟩ := h
  cases rx
  cases ry
  obtain ⟨z, its, n, r, hl, e⟩ := I.lstM hH
  obtain ⟨z2, its2, n2, r2, hl2, e2⟩ := I.lstM hB
  refine PySem.P.add_list e e2 ?_ (by rw [List.size_toArray, List.size_toArray]; omega)
  have ea : its.toArray ++ its2.toArray = (its ++ its2).toArray := by simp
  rw [ea]
  exact ⟨.ref _, _, I.lnew (t' := s.toks) (r.append r2) (by rw [List.length_append]; omega), rfl, q _ I.fresh⟩
/-- a list times an int (a negative one is nothing) -/
def rRep : R2 := fun x y H Q => ∃ l k xs, x = .ref l ∧ y = .int k ∧ H l = some (.lst xs) ∧ -(2 ^ 63) ≤ k ∧ k < 2 ^ 63 ∧ xs.length * k.toNat ≤ sizeLine ∧
  ∀ p, H p = none → Q (.ref p) (upd H p (.lst (List.replicate k.toNat xs).flatten))
theorem len_rep {α : Type} (xs : List α) (k : Nat) : (List.replicate k xs).flatten.length = k * xs.length := by
  induction k with
  | zero => simp
  | succ k ih => rw [List.replicate_succ, List.flatten_cons, List.length_append, ih, Nat.succ_mul, Nat.add_comm]
theorem op_rep : OpR X (binaryOp .Mult) rRep := by
  intro pins s σ H x y v u Q I rx ry h
  obtain ⟨l, k, xs, rfl, rfl, hH, h1, h2, hz, q⟩ := h
  cases rx
  obtain ⟨t, rfl⟩ := ry
  obtain ⟨z, its, n, r, hl, e⟩ := I.lstM hH
  have hlen : its.toArray.size * k.toNat ≤ sizeLine := by rw [List.size_toArray, ← hl]; exact hz
  have hcap : ¬ its.toArray.size * k.toNat > (2 ^ 63 - 1) / 8 := by
    have : (sizeLine : Nat) ≤ (2 ^ 63 - 1) / 8 := by decide
    omega
  have hfit : ¬ (!Builtin.List.listFitsIndex k) = true := by
    rw [fitsIndex_both h1 h2]
    exact Bool.false_ne_true
  have hlong : ¬ Builtin.List.listTooLong (its.toArray.size * k.toNat) = true := by
    rw [notLongL hlen]
    exact Bool.false_ne_true
  have hnew : List.foldl (fun x1 x2 => x1 ++ x2) #[] (List.replicate (if its.toArray.isEmpty = true then 0 else k.toNat) its.toArray) = (List.replicate k.toNat its).flatten.toArray := by
    have f0 : ∀ m : Nat, List.foldl (fun x1 x2 => x1 ++ x2) #[] (List.replicate m its.toArray) = (List.replicate m its).flatten.toArray := fun m => by
      have := foldl_rep its m []
      rw [List.nil_append] at this
      exact this
    rw [f0]
    cases its with
    | nil => simp
    | cons a r' => rw [if_neg (by simp)]
  refine wpAny_binaryOp_repeat_ref (T := "list") (U := "int") (by decide) ⟨_, e, rfl⟩ (fun s' => typeIs_int s' k t) noFill_list_mul F.fills_int_mul F.slot_int_rmul repeat_list F.slot_int_index.lookup
    (call_meets F.slot_int_rmul (typeIs_int s k t) F.entry_int_rmul (F.args_int_rmul_2 _ _) (int___rmul___int_list k t l its.toArray n)
      ⟨e, rfl, ⟨_, e, rfl⟩, call_meets F.slot_list_mul ⟨_, e, rfl⟩ F.entry_list_mul (F.args_list_mul_2 _ _) (AutoListH.list___mul___list_int_3 l its.toArray n k t hfit hcap hlong) ⟨e, ?_⟩⟩)
  rw [hnew]
  exact ⟨.ref _, _, I.lnew (t' := s.toks) (r.rep k.toNat) (by rw [len_rep, Nat.mul_comm]; exact hz), rfl, q _ I.fresh⟩

/-! ### del xs[i] -/
end

/-! ### xs[a:b] = ys -/
section
variable {prog : Program} {w : World} {A : Around} {E : Value → Shared → Prop} {s : Shared}
end

section
variable {X : Cx}
end
end L2

namespace Att
open PySem PySem.W PySem.Calls PyProof.Rows

/-! ### the script -/
theorem ints_of_wellAll {P : Params} {h : Heap} : ∀ (ns : List Int) (vs : List Value), WellAll P h vs (ns.map WData.int) → IntsAre vs ns := by
  intro ns
  induction ns with
  | nil =>
    intro vs w
    rw [List.map_nil] at w
    cases w
    exact .nil
  | cons n ns ih =>
    intro vs w
    rw [List.map_cons] at w
    cases w with
    | cons a b =>
      cases a
      exact .cons _ _ (ih _ b)

theorem script_of {l : OpenLaw} {n : Nat} (hn : l.most = some n) {P : Params} {h : Heap} {args : List WData} {vals : List Value}
    (hpre : l.row.toRowW.claim.pre args = true) (hwl : WellAll P h vals args) :
    ∃ a vs ns, vals = [Value.ref a] ∧ args = [WData.list (ns.map WData.int)] ∧ h.get? a = some { cls := .type "list", data := .seq vs.toArray } ∧ IntsAre vs ns ∧ ns.length ≤ n := by
  have hsh : WShape.hasAll [] args [.list .int] = true := (pre_splitW hpre).1
  have hc : l.pre.holds [] { args := args } = true := (pre_splitW hpre).2
  obtain ⟨d, r, rfl, h1, h2⟩ := hasAllW_cons hsh
  obtain rfl := hasAllW_nil h2
  obtain ⟨xs, rfl, h3⟩ := hasW_list h1
  obtain ⟨ns, rfl⟩ := items_int h3
  have hlen : ns.length ≤ n := by
    unfold OpenLaw.pre at hc
    have h4 : (WTm.not (.lt (.lit (.int (n : Int))) (.len (.arg 0)))).holds [] { args := [.list (ns.map .int)] } = true := by
      have h4 := (holds_andW hc).1
      rw [hn] at h4
      exact h4
    have h5 := condW_of h4 (w_not (w_lt w_lit (w_len_list (w_arg rfl))))
    rw [List.length_map] at h5
    refine Nat.le_of_not_lt fun q => ?_
    have q' : (n : Int) < ((ns.length : Nat) : Int) := by omega
    first
      | (rw [decide_eq_true q'] at h5; exact absurd h5 (by decide))
      | (simp at h5; omega)
  cases hwl with
  | cons w1 w2 =>
    cases w2
    cases w1 with
    | list ho hall => exact ⟨_, _, ns, rfl, rfl, ho, ints_of_wellAll ns _ hall, hlen⟩

theorem post_true (l : OpenLaw) (args : List WData) : l.row.toRowW.claim.post args (.bool true) args = true :=
  postW_of (r := l.row.toRowW) (X := (true == true))
    (show WShape.has [] (.bool true) .bool = true by first | rfl | decide | simp [WShape.has, WShape.arms, WShape.armsAll])
    (show (WTm.eq .res (.lit (.bool true))).value [] { args := args, res := some (.bool true), after := args } = some (.bool (true == true)) from w_eq_bool (w_res rfl) w_lit) rfl

/-! ### the attachment: holds_open's last premise (the goal 'hc' behind k_head) from a wpAny of the law's body -/
/-- the same from a codeAny of the CALL (for a layer whose function contracts speak of calls) -/
theorem attach_call {l : OpenLaw} {n : Nat} {q : Program} {loose : List Str} {XP : (Str → Option Value) → Heap → Prop} {YP : World → Heap → Prop} {d : DefRec}
    (hn : l.most = some n) (hdf : d.params.defaults = [])
    (call : ∀ (w : World) (s₀ s₁ : Shared) (mg mb : Str → Option Value) (fa : Addr) (o : Obj) (pm cd doc : Value) (a : Addr) (vs : List Value) (ns : List Int),
      Ground q loose [] XP w s₀ mg mb s₁.heap → YP w s₁.heap →
      s₁.heap.get? fa = some o → o.data = .func (docDef d.name d.params d.body d.scope pm cd doc) → s₁.heap.CodeRec cd d.name → mg d.name = some (.ref fa) →
      s₁.heap.get? a = some { cls := .type "list", data := .seq vs.toArray } → IntsAre vs ns → ns.length ≤ n → s₁.gens = #[] →
      codeAny (model l.prog w) callerA (.call (.ref fa) ⟨[.ref a], []⟩) (fun r s' => r = .ok (.ret (.bool true)) ∧ OldK s₁.heap s'.heap ∧ s'.os = s₁.os ∧ AllBare s'.gens) s₁) :
    WalkO q loose XP YP l.row.toRowW d [] (fun f vs => PySem.call f vs) := by
  intro w s₀ s₁ mg mb G Y fa o pm cd doc dV kV ho hd hcd hD hmg hg args vals as hpre hlay hrd hwl hlo
  obtain rfl : dV = .none := Dflts.none hD hdf
  obtain rfl : kV = .none := Dflts.noKw hD
  obtain ⟨a, vs, ns, rfl, rfl, hobj, hints, hlen⟩ := script_of hn hpre hwl
  refine enter_call (codeAny_mono (call w s₀ s₁ mg mb fa o pm cd doc a vs ns G Y ho (fd_plain hd) hcd hmg hobj hints hlen hg) fun r s' hq => ?_)
  obtain ⟨rfl, h2, h3, h4⟩ := hq
  exact ⟨.inl ⟨.bool true, .bool true, [], rfl, fun _ => rfl, .bool true, post_true l _, fun _ => ⟨List.Pairwise.nil, fun _ hm => (nomatch hm)⟩⟩, h2, h3, h4⟩

/-! ### rules over ANY heap (no ledger) from facts about the written part K: the library's own take a ledger (News) for what they write -/
section
variable {prog : Program} {w : World} {A : Around} {E : Value → Shared → Prop} {s : Shared} {K : Frag}

/-! the whole heap as the ledger: makes every rule that writes through a ledger a rule over any heap -/
def ledger (h : Heap) (L d : Addr) : List (Addr × Obj) := (List.range h.objs.size).filterMap fun a => if a = L ∨ a = d then none else (h.get? a).map fun o => (a, o)
end
end Att

namespace L2
open PySem PySem.Spec PyProof.Rows

theorem vals_ints : ∀ {vs : List Value} {ns : List Int}, IntsAre vs ns → Vals (ns.map V.int) vs
  | _, _, .nil => .nil
  | _, _, .cons n t h => .cons ⟨t, rfl⟩ (vals_ints h)

/-- nothing is tracked but the script, known to the object (or it is an object of the module) -/
def Only (H : Hp) : Prop := ∀ b, H b = none ∨ ∃ o xs, H b = some (.frz o (.lst xs))

/-- THE HEAD: the law's promise, at the heap behind the top. F, the promise of the law's def, may use that base is part of the heap (so K.In base, base.Ns mainGlobals mg stand in Mod) -/
theorem law_call {P : Program} {w : World} {K : PySem.W.Frag} {mg mb : Str → Option Value} {CX : CXT} {k : Nat} {fa a : Addr} {fd : FuncData} {x : Str} {sp : Sp} {s₁ : Shared} {vs : List Value} {ns : List Int}
    (KX : K.In s₁.heap) (hns : s₁.heap.Ns mainGlobals mg) (hb : s₁.heap.Ns builtinsNs mb) (hbb : ∀ x : Str, x ≠ "__name__" → mb x = bootBuiltins x) (hlim : s₁.heap.NoLimit) (hg : s₁.gens = #[])
    (ha : s₁.heap.get? a = some { cls := .type "list", data := .seq vs.toArray }) (hi : IntsAre vs ns) (hl : ns.length ≤ sizeLine) (hr : Room k callerA)
    (F : ∀ base : Heap, K.In base → base.Ns mainGlobals mg → FnOk P w K mg base CX k fa fd [x] sp) (hbind : ∀ (s : Shared) (u : Value), BindsTo s fd ⟨[u], []⟩ [(x, u)])
    (hsp : ∀ H : Hp, Only H → SqL K H a (ns.map V.int) → sp [.ref a] H (fun v _ => v = .bl true) fun _ _ _ => False)
    (hCX : ∀ H e s', CX [] H s₁ (fun _ _ _ => False) e s' → False) :
    codeAny (model P w) callerA (.call (.ref fa) ⟨[.ref a], []⟩) (fun r s' => r = .ok (.ret (.bool true)) ∧ OldK s₁.heap s'.heap ∧ s'.os = s₁.os ∧ AllBare s'.gens) s₁ := by
  have rv := vals_ints hi
  have lenV := hi.length
  -- from an abstract heap in which nothing but the script may be tracked
  have core : ∀ H : Hp, Only H → SqL K H a (ns.map V.int) → HOk P w H s₁.heap → (∀ b, H b ≠ none → b = a) → (H a ≠ none → K.lookup a = none) →
      codeAny (model P w) callerA (.call (.ref fa) ⟨[.ref a], []⟩) (fun r s' => r = .ok (.ret (.bool true)) ∧ OldK s₁.heap s'.heap ∧ s'.os = s₁.os ∧ AllBare s'.gens) s₁ := by
    intro H hO hS hok hA hK
    have base_of : ∀ {b : Addr} {o : Obj}, s₁.heap.get? b = some o → H b = none → (hidT s₁.heap H).get? b = some o := fun e n => hidT_get e n
    have noA : ∀ {b : Addr} {o : Obj} {es : Array DictEntry} {ep : Nat}, s₁.heap.get? b = some o → o.data = .dict es ep → H b = none := fun {b o es ep} e d => by
      cases q : H b with
      | none => rfl
      | some u =>
        have e' : b = a := hA b (by rw [q]; simp)
        subst e'
        rw [ha] at e; cases e
        have d' : Data.seq vs.toArray _ = Data.dict es ep := d
        cases d'
    have nsK : ∀ {b : Addr} {m : Str → Option Value}, s₁.heap.Ns b m → (hidT s₁.heap H).Ns b m := fun {b m} ⟨o, es, ep, e, d, r⟩ => ⟨o, es, ep, base_of e (noA e d), d, r⟩
    have hKb : K.In (hidT s₁.heap H) := fun b o e => base_of (KX b o e) (by
      cases q : H b with
      | none => rfl
      | some u =>
        have e' : b = a := hA b (by rw [q]; simp)
        subst e'
        rw [hK (by rw [q]; simp)] at e; cases e)
    have hM : Mod K mg (hidT s₁.heap H) := ⟨hKb, nsK hns, ⟨mb, nsK hb, hbb⟩, let ⟨mc, h1, h2⟩ := hlim; ⟨mc, nsK h1, h2⟩⟩
    have e0 : Env0 P w K mg (hidT s₁.heap H) callerA [] s₁ H := ⟨rfl, hM, fun b o e => of_hidT e, Nat.le_of_eq (hidT_size _ _), trivial, fun b hb => absurd (show b ∈ ([] : List Addr) from hb) (by simp), hok, .of_eq hg⟩
    refine codeAny_mono ((F _ hKb (nsK hns)).run callerA [] s₁ H ⟨[.ref a], []⟩ [.ref a] [.ref a] _ _ hr e0 (hbind s₁ (.ref a)) (.cons rfl .nil) (hsp H hO hS)) fun r s' h => ?_
    cases r with
    | error e => exact (hCX H e s' h).elim
    | ok fl =>
      cases fl with
      | next => exact False.elim h
      | brk => exact False.elim h
      | cont => exact False.elim h
      | ret u =>
        obtain ⟨v, H', os, bare, un, hok', r', q⟩ := h
        have q' : v = .bl true := q
        subst q'
        obtain rfl : u = Value.bool true := r'
        refine ⟨rfl, OldK.of_keep fun b o e => ?_, os, bare⟩
        cases q : H b with
        | none => exact un.keep b o e q (by intro z; exact absurd (show b ∈ ([] : List Addr) from z) (by simp)) (by simp)
        | some u =>
          rcases hO b with z | ⟨ob, xs, z⟩
          · rw [q] at z; cases z
          · have z2 := un.frzs b ob _ z
            obtain ⟨e1, _⟩ := hok b _ z
            obtain ⟨e2, _⟩ := hok' b _ z2
            rw [e] at e1; cases e1
            exact e2
  cases hk : K.lookup a with
  | some o =>
    -- the script is one of the module's own objects
    have e := KX a o hk
    rw [ha] at e
    cases e
    refine core (fun _ => none) (fun _ => .inl rfl) (.inr ⟨_, vs.toArray, _, hk, rfl, rfl, rfl, by rw [List.size_toArray, lenV]; exact hl, by simpa using rv⟩) (fun b u z => by have z' : (none : Option HO) = some u := z; cases z') (fun b z => absurd rfl z) fun z => absurd rfl z
  | none =>
    refine core (fun b => if b = a then some (.frz { cls := .type "list", data := .seq vs.toArray } (.lst (ns.map V.int))) else none) (fun b => ?_) (.inl (.inr ⟨{ cls := .type "list", data := .seq vs.toArray }, if_pos rfl⟩)) (fun b u z => ?_) (fun b z => ?_) fun _ => hk
    · by_cases hb : b = a
      · exact .inr ⟨_, _, if_pos hb⟩
      · exact .inl (if_neg hb)
    · by_cases hb : b = a
      · have z' := (if_pos hb).symm.trans z
        cases z'
        subst hb
        exact ⟨ha, by rw [List.length_map]; exact hl, vs, _, rv, ha⟩
      · have z' := (if_neg hb).symm.trans z
        cases z'
    · by_cases hb : b = a
      · exact hb
      · exact absurd (if_neg hb) z
end L2

namespace L2
open PySem PySem.Spec PyProof.Rows

abbrev KOf {K : PySem.W.Frag} {h : Heap} (_ : K.In h) : PySem.W.Frag := K

/-- the goal that k_head leaves (case hc), from the law's promise. F gives the function object fd (K's own) once, then the promise over every base -/
theorem walk_of {l : PySem.W.OpenLaw} {n k : Nat} {q : Program} {loose : List Str} {XP : (Str → Option Value) → Heap → Prop} {YP : World → Heap → Prop} {d : DefRec} {K : Params → PySem.W.Frag} {CX : World → CXT} {sp : World → Sp} {x : Str}
    (hn : l.most = some n) (hn2 : n ≤ sizeLine) (hdf : d.params.defaults = []) (hr : Room k callerA)
    (hY : ∀ (w : World) (h : Heap), YP w h → (K w.params).In h)
    (F : ∀ (w : World) (mg : Str → Option Value) (fa : Addr) (h : Heap), (K w.params).In h → h.Ns mainGlobals mg → mg d.name = some (.ref fa) →
      ∃ fd : FuncData, (∀ (s : Shared) (u : Value), BindsTo s fd ⟨[u], []⟩ [(x, u)]) ∧
        ∀ base : Heap, (K w.params).In base → base.Ns mainGlobals mg → FnOk l.prog w (K w.params) mg base (CX w) k fa fd [x] (sp w))
    (hsp : ∀ (w : World) (H : Hp) (a : Addr) (ns : List Int), ns.length ≤ n → Only H → SqL (K w.params) H a (ns.map V.int) → sp w [.ref a] H (fun v _ => v = .bl true) fun _ _ _ => False)
    (hCX : ∀ (w : World) (H : Hp) (s : Shared) (e : Value) (s' : Shared), CX w [] H s (fun _ _ _ => False) e s' → False) :
    PySem.W.WalkO q loose XP YP l.row.toRowW d [] (fun f vs => PySem.call f vs) := by
  refine Att.attach_call hn hdf fun w s₀ s₁ mg mb fa o pm cd doc a vs ns G Y ho hd hcd hmg hobj hints hlen hg => ?_
  have KX := hY w _ Y
  obtain ⟨fd, hb, hF⟩ := F w mg fa _ KX G.T.g hmg
  exact law_call KX G.T.g G.T.b G.T.builtins G.T.nolimit hg hobj hints (Nat.le_trans hlen hn2) hr hF hb (fun H hO hS => hsp w H a ns hlen hO hS) fun H e s' => hCX w H s₁ e s'
end L2

/- THE LAST THEOREM (shape; LID, My.* are yours):
   My.Adr: a structure of the addresses that your layer names (classes, functions); My.Txt K t: a structure (Prop) of the equations over K;
   My.txt_mk : {K} {implicit addresses ..} (e1 : nsIn K mainGlobals "law" = some (some (.ref f))) (e2 : K.lookup f = some ⟨oc, od, .func (fnOf "law" "law" params body scope dV kV doc pm an cdv ct), sl⟩) (e3 : codeIn K cdv "law" = true) .. : ∃ t, My.Txt K t

set_option maxRecDepth 100000 in
set_option maxHeartbeats 0 in
theorem PySem.Challenge.cw_LID_holds : PySem.Challenge.rw_LID.Holds := by
  w_on; o_law; k_head; (case hw => w_witness2)
  k_fill
  refine L2.walk_of (l := PySem.Challenge.rw_LID) (n := 63) (k := 40) (x := "script") (CX := fun w => ..) (sp := fun _ => My.sp_law) rfl (by decide) rfl ⟨rfl, by decide, by decide⟩ (fun w h Y => PySem.W.kIn_of Y) ?F ?S ?C
  case F =>
    intro w mg fa h KX G hmg
    have T : ∃ t, My.Txt (L2.KOf KX) t := by
      dsimp only [L2.KOf]                          -- K must stand as «<heap const> w.params» for k_is
      refine' My.txt_mk ?e1 ?e2 ?e3 ..
      (case e1 => PySem.W.k_is)                    -- in the order: a name -> its address -> its object -> its parts
      (case e2 => PySem.W.k_is)
      ..
    obtain ⟨t, T⟩ := T
    have e0 := hmg.symm.trans (PySem.W.mg_of KX G T.law)
    cases e0                                       -- fa is the law's own address
    exact ⟨_, fun s u => .of_eq rfl, fun base kb nb => My.law_fn T kb nb⟩     -- if «.of_eq rfl» comes too early: refine' ⟨_, ?b, fun base kb nb => My.law_fn T kb nb⟩; exact fun s u => .of_eq rfl
  case S => exact fun w H a ns hl hO hS => ..
  case C => exact ..
(the tactic k_is has no namespace: write k_is) -/

/-! SHORT WORDS over the layer: a def of the text, its body, what a loop and a test want. -/
namespace L2
open PySem PySem.Spec PyProof.Rows

/-! ### the text by places -/
def defArgs (s : Stmt) : Arguments := match s with
  | .FunctionDef _ a _ _ _ _ _ _ _ _ => a
  | _ => { posonlyargs := [], args := [], vararg := none, kwonlyargs := [], kw_defaults := [], kwarg := none, defaults := [] }
def defBody (s : Stmt) : List Stmt := match s with
  | .FunctionDef _ _ b _ _ _ _ _ _ _ => b
  | _ => []
def defScope (s : Stmt) : Scope := match s with
  | .FunctionDef _ _ _ _ _ _ sc _ _ _ => sc
  | _ => { kind := .function, names := [], isGenerator := false, isCoroutine := false }

/-! ### no exception leaves a def -/
abbrev CX0 : CXT := fun _ _ _ _ _ _ => False
abbrev E0 : XK := fun _ _ _ => False
theorem pass0 {X : Cx} : Passes CX0 X E0 := fun _ _ _ _ _ _ _ h => h.elim

/-! ### a def (or method) of the text as it stands behind the top -/
structure Fun (K : PySem.W.Frag) (x qual : Str) (st : Stmt) (f : Addr) (fd : FuncData) : Prop where
  ex : ∃ (oc : Value) (od : Option Addr) (kV doc pm : Value) (an : Option Addr) (cdv ct : Value) (osl : Array (Option Value)),
    fd = PySem.W.fnOf x qual (defArgs st) (defBody st) (defScope st) .none kV doc pm an cdv ct ∧ K.lookup f = some ⟨oc, od, .func fd, osl⟩ ∧ PySem.W.codeIn K cdv qual = true
  kp : PySem.W.keepIn K (.ref f) = true
section
variable {P : Program} {w : World} {K : PySem.W.Frag} {mg : Str → Option Value} {base : Heap}
/-- THE RULE for a def: its body as a term of rules, and the reading of that term -/
theorem Fun.ok {x qual : Str} {st : Stmt} {f : Addr} {fd : FuncData} {N ps : List Str} {k : Nat} {sp : Sp} (F : Fun K x qual st f fd) (S : FnScope N ps (defScope st)) (len : ∀ vs H Q E, sp vs H Q E → vs.length = ps.length)
    (hbody : ∀ (cdv : Value) (A : Around) (outer : List Env) (s : Shared) (H : Hp) (vs : List V) (Q : VK) (E : XK), Room k (A.deeper (envOfC qual (defScope st) s.heap.objs.size f cdv)) → sp vs H Q E →
      ∃ t, PSs (cxOf CX0 P w K mg base N qual (defScope st) f cdv A outer s H E).nox (defBody st) t ∧ t { nx := fun _ H' => Q .non H', rt := Q } (start N vs) H) : FnOk P w K mg base CX0 (k + 1) f fd ps sp := by
  obtain ⟨oc, od, kV, doc, pm, an, cdv, ct, osl, rfl, lk, hcd⟩ := F.ex
  refine fn_of lk hcd S len fun A outer s H vs Q E hr hsp => ?_
  obtain ⟨t, h, q⟩ := hbody cdv A outer s H vs Q E hr hsp
  exact ⟨t, h.nox, q⟩
/-- how its arguments bind (no defaults): h is «fun _ _ _ _ _ _ us hl => match us, hl with | [_, _], _ => rfl», one _ a parameter -/
theorem Fun.binds {x qual : Str} {st : Stmt} {f : Addr} {fd : FuncData} {ps : List Str} (F : Fun K x qual st f fd)
    (h : ∀ (kV doc pm : Value) (an : Option Addr) (cdv ct : Value) (us : List Value), us.length = ps.length → bindArgs (PySem.W.fnOf x qual (defArgs st) (defBody st) (defScope st) .none kV doc pm an cdv ct) ⟨us, []⟩ = pure (ps.zip us)) : Binds K fd ps [] := by
  obtain ⟨oc, od, kV, doc, pm, an, cdv, ct, osl, rfl, lk, hcd⟩ := F.ex
  exact .all (h kV doc pm an cdv ct)
theorem fun_mk {x qual : Str} {st : Stmt} {f : Addr} {oc : Value} {od an : Option Addr} {osl : Array (Option Value)} {kV doc pm cdv ct : Value} (l : K.lookup f = some ⟨oc, od, .func (PySem.W.fnOf x qual (defArgs st) (defBody st) (defScope st) .none kV doc pm an cdv ct), osl⟩)
    (c : PySem.W.codeIn K cdv qual = true) (k : PySem.W.keepIn K (.ref f) = true) : Fun K x qual st f (PySem.W.fnOf x qual (defArgs st) (defBody st) (defScope st) .none kV doc pm an cdv ct) := ⟨⟨oc, od, kV, doc, pm, an, cdv, ct, osl, rfl, l, c⟩, k⟩
end
theorem hu_of {A : Around} {k : Nat} (hr : Room k A) : A.units + 1 < cLine := Nat.lt_of_le_of_lt (Nat.add_le_add_left (by decide : 1 ≤ 64) _) hr.units
theorem small1000 {n : Nat} (h : n ≤ 1000) : n < sizeLine := Nat.lt_of_le_of_lt h (by decide)

/-! ### expressions in short: the name that stands in the i-th slot -/
section
variable {X : Cx}
theorem pv (i : Nat) {x : Str} {pos : Pos} (hN : X.N[i]? = some x := by rfl) (hv : Vis X.env.scope x := by first | exact Or.inl rfl | exact Or.inr (Or.inl rfl) | exact Or.inr (Or.inr rfl)) (hd : (x == ("__debug__" : Str)) = false := by decide)
    (hcd : (x == ("__classdict__" : Str)) = false := by decide) : PE X (.Name x pos) (tVar i) := pe_var hN hv hd hcd
end

/-! ### tests -/
theorem iteF {A B : Prop} (h : B) : if false = true then A else B := by
  rw [if_neg Bool.false_ne_true]
  exact h
theorem iteT {A B : Prop} (h : A) : if true = true then A else B := by
  rw [if_pos rfl]
  exact h
theorem ite2 {c A B : Prop} [Decidable c] (h1 : c → A) (h2 : ¬ c → B) : if c then A else B := by
  by_cases h : c
  · rw [if_pos h]
    exact h1 h
  · rw [if_neg h]
    exact h2 h
/-! ### heaps -/
/-- all that was tracked is as it was -/
def Same (H H' : Hp) : Prop := ∀ b o, H b = some o → H' b = some o
theorem Same.refl (H : Hp) : Same H H := fun _ _ h => h
theorem Same.trans {H H1 H2 : Hp} (a : Same H H1) (b : Same H1 H2) : Same H H2 := fun c o h => b c o (a c o h)
theorem Same.free {H H' : Hp} (e : Same H H') {l : Addr} (h : H' l = Option.none) : H l = Option.none := by
  cases q : H l with
  | none => rfl
  | some o =>
    rw [e l o q] at h
    cases h
theorem Same.seq {K : PySem.W.Frag} {H H' : Hp} {a : Addr} {xs : List V} (e : Same H H') (h : SqL K H a xs) : SqL K H' a xs := by
  rcases h with (h | ⟨o, h⟩) | h
  · exact .inl (.inl (e _ _ h))
  · exact .inl (.inr ⟨o, e _ _ h⟩)
  · exact .inr h

end L2

set_option maxHeartbeats 4000000
namespace L2
open PySem PySem.Spec PyProof.Rows

/-! ### the cells that a comprehension's block is handed -/
def clF (cells : List (Str × Addr)) : List (Str × NameKind) → List (Str × Addr) → List (Str × Addr)
  | [], cs => cs
  | (n, k) :: r, cs => clF cells r (if k == .free then (match cells.lookup n with | some c => (n, c) :: cs | none => cs) else cs)

theorem clF_mem {cells : List (Str × Addr)} : ∀ (names : List (Str × NameKind)) (cs : List (Str × Addr)) (n : Str) (c : Addr), (n, c) ∈ clF cells names cs → (n, c) ∈ cs ∨ (cells.lookup n = some c ∧ (n, NameKind.free) ∈ names)
  | [], cs, n, c, h => .inl h
  | (m, k) :: r, cs, n, c, h => by
    rcases clF_mem r _ n c h with q | ⟨q, z⟩
    · by_cases hk : (k == NameKind.free) = true
      · rw [if_pos hk] at q
        have hk' : k = .free := by simpa using hk
        cases e : cells.lookup m with
        | none => rw [e] at q; exact .inl q
        | some d =>
          rw [e] at q
          rcases List.mem_cons.mp q with z | z
          · cases z; exact .inr ⟨e, by rw [hk']; exact List.mem_cons_self⟩
          · exact .inl z
      · rw [if_neg hk] at q; exact .inl q
    · exact .inr ⟨q, List.mem_cons_of_mem _ z⟩
theorem clF_sub {cells : List (Str × Addr)} : ∀ (names : List (Str × NameKind)) (cs : List (Str × Addr)), ∀ p ∈ cs, p ∈ clF cells names cs
  | [], cs, p, h => h
  | (m, k) :: r, cs, p, h => by
    refine clF_sub r _ p ?_
    by_cases hk : (k == NameKind.free) = true
    · rw [if_pos hk]
      cases cells.lookup m with
      | none => exact h
      | some d => exact List.mem_cons_of_mem _ h
    · rw [if_neg hk]; exact h
theorem clF_has {cells : List (Str × Addr)} : ∀ (names : List (Str × NameKind)) (cs : List (Str × Addr)) (n : Str) (c : Addr), (n, NameKind.free) ∈ names → cells.lookup n = some c → (n, c) ∈ clF cells names cs
  | [], _, _, _, h, _ => nomatch h
  | (m, k) :: r, cs, n, c, h, e => by
    rcases List.mem_cons.mp h with z | z
    · cases z
      refine clF_sub r _ _ ?_
      rw [if_pos (by rfl), e]
      exact List.mem_cons_self
    · exact clF_has r _ n c z e
theorem lookup_isSome_of_mem {β : Type} : ∀ {l : List (Str × β)} {n : Str} {c : β}, (n, c) ∈ l → ∃ d, l.lookup n = some d
  | (m, d) :: r, n, c, h => by
    cases e : n == m with
    | true => exact ⟨d, by simp [List.lookup_cons, e]⟩
    | false =>
      have e' : n ≠ m := by simpa using e
      rcases List.mem_cons.mp h with z | z
      · cases z; exact absurd rfl e'
      · obtain ⟨q, hq⟩ := lookup_isSome_of_mem z
        exact ⟨q, by simp [List.lookup_cons, e, hq]⟩
theorem clF_lookup {cells : List (Str × Addr)} {names : List (Str × NameKind)} {n : Str} {c : Addr} (h : (clF cells names []).lookup n = some c) : cells.lookup n = some c ∧ (n, NameKind.free) ∈ names := by
  rcases clF_mem names [] n c (PySem.mem_of_lookup h) with z | z
  · cases z
  · exact z
theorem closure_eq {env : Env} {scope : Scope} (hf : ∀ n, (n, NameKind.free) ∈ scope.names → ∃ c, env.cells.lookup n = some c) : closureFor scope env = pure (clF env.cells scope.names []) := by
  have go : ∀ (l : List (Str × NameKind)) (cs : List (Str × Addr)), (∀ n, (n, NameKind.free) ∈ l → ∃ c, env.cells.lookup n = some c) →
      (forIn l cs (fun x r => match x with | (name, kind) => if (kind == NameKind.free) = true then do
        let y ← cellOf env name
        pure (ForInStep.yield ((name, y) :: r)) else pure (ForInStep.yield r)) : Sem (List (Str × Addr))) = pure (clF env.cells l cs) := by
    intro l
    induction l with
    | nil => intro cs _; rfl
    | cons x r ih =>
      intro cs h
      obtain ⟨n, k⟩ := x
      rw [List.forIn_cons]
      by_cases hk : (k == NameKind.free) = true
      · have hk' : k = .free := by simpa using hk
        obtain ⟨c, e⟩ := h n (by rw [hk']; exact List.mem_cons_self)
        have ec : cellOf env n = pure c := by unfold cellOf; rw [e]
        simp only [hk, if_true, ec, pure_bind]
        rw [ih _ fun m hm => h m (List.mem_cons_of_mem _ hm)]
        show _ = pure (clF env.cells r _)
        rw [if_pos hk, e]
      · have hk' : (k == NameKind.free) = false := by simpa using hk
        have e1 := ih cs fun m hm => h m (List.mem_cons_of_mem _ hm)
        show (((if (k == NameKind.free) = true then _ else pure (ForInStep.yield cs)) : Sem _) >>= _) = _
        rw [if_neg hk, pure_bind]
        refine Eq.trans e1 ?_
        show _ = pure (clF env.cells r _)
        rw [if_neg hk]
  unfold closureFor
  have := go scope.names [] hf
  rw [bind_pure]
  exact this
end L2

namespace L2
open PySem PySem.Spec PyProof.Rows

/-- a comprehension's own scope against the block around it -/
structure CScope (X : Cx) (xs : List Str) (sc : Scope) : Prop where
  kind : sc.kind = .function
  nocell : ∀ y ∈ sc.names, y.2 ≠ .cell
  names : ∀ y ∈ sc.names, y.2 = .local → sc.names.lookup y.1 = some .local
  own : ∀ x ∈ xs, sc.names.lookup x = some .local
  sep : ∀ y ∈ X.N, sc.names.lookup y ≠ some .local
  frees : ∀ y ∈ sc.names, y.2 = .free → X.env.kindOf y.1 = some .cell ∨ X.env.kindOf y.1 = some .free
  nd : (xs ++ X.N).Nodup

/-- the context of a comprehension's block -/
def cxC (X : Cx) (xs : List Str) (sc : Scope) (ex : List Addr) (s : Shared) (H : Hp) : Cx where
  prog := X.prog
  w := X.w
  K := X.K
  mg := X.mg
  base := X.base
  A := X.A
  N := xs ++ X.N
  s₀ := s
  H₀ := H
  env := compEnvC sc (clF X.env.cells sc.names []) s.heap.objs.size X.env
  outer := X.stack
  stack := X.stack
  ex := ex
  fn := fun _ => false
  calm := X.calm
  pn := []
  xe := fun _ _ => False

theorem lookup_relabel (env : Env) (x : Str) : ∀ names : List (Str × NameKind),
    (names.map fun (n, k) => if (k == NameKind.free && env.scope.kind == .function && env.kindOf n == some .cell) then (n, NameKind.cell) else (n, k)).lookup x =
      (names.lookup x).map fun k => if (k == NameKind.free && env.scope.kind == .function && env.kindOf x == some .cell) then NameKind.cell else k
  | [] => rfl
  | (n, k) :: r => by
    have ih := lookup_relabel env x r
    show List.lookup x ((if (k == NameKind.free && env.scope.kind == .function && env.kindOf n == some .cell) = true then (n, NameKind.cell) else (n, k)) :: _) = _
    cases hx : x == n with
    | true =>
      have e : x = n := by simpa using hx
      subst e
      by_cases hc : (k == NameKind.free && env.scope.kind == .function && env.kindOf x == some .cell) = true
      · rw [if_pos hc]
        simp only [List.lookup_cons, hx, Option.map_some]
        rw [if_pos hc]
      · rw [if_neg hc]
        simp only [List.lookup_cons, hx, Option.map_some]
        rw [if_neg hc]
    | false =>
      by_cases hc : (k == NameKind.free && env.scope.kind == .function && env.kindOf n == some .cell) = true
      · rw [if_pos hc]; simp only [List.lookup_cons, hx]; exact ih
      · rw [if_neg hc]; simp only [List.lookup_cons, hx]; exact ih

/-- a name of the block around, seen in the comprehension, is a free one -/
theorem vis_relabel {sc : Scope} {env : Env} {x : Str} (h : Vis (relabel sc env) x) (hl : sc.names.lookup x ≠ some .local) (hc : ∀ y ∈ sc.names, y.2 ≠ .cell) :
    (x, NameKind.free) ∈ sc.names ∧ ((relabel sc env).names.lookup x = some .cell ∨ (relabel sc env).names.lookup x = some .free) := by
  have e : (relabel sc env).names.lookup x = _ := lookup_relabel env x sc.names
  unfold Vis at h
  rw [e] at h
  cases k : sc.names.lookup x with
  | none => rw [k] at h; simp at h
  | some v =>
    have mem := PySem.mem_of_lookup k
    have nl : v ≠ .local := fun z => hl (by rw [k, z])
    have ncl : v ≠ .cell := fun z => hc _ mem z
    rw [k] at h
    rw [e, k]
    simp only [Option.map_some] at h ⊢
    by_cases hv : v = .free
    · subst hv
      refine ⟨mem, ?_⟩
      split
      · exact .inl rfl
      · exact .inr rfl
    · have : (v == NameKind.free) = false := by simpa using hv
      simp only [this, Bool.false_and] at h
      rcases h with h | h | h
      · exact absurd (Option.some.inj h) nl
      · exact absurd (Option.some.inj h) ncl
      · exact absurd (Option.some.inj h) hv

section
variable {X : Cx} {pins : List (Addr × Obj)} {σ : St} {H : Hp} {s : Shared} {xs : List Str} {sc : Scope} {ex : List Addr}
theorem CScope.cells (S : CScope X xs sc) (ok : X.Ok) : ∀ n, (n, NameKind.free) ∈ sc.names → ∃ c, X.env.cells.lookup n = some c := fun n h => ok.has n (S.frees _ h rfl)
theorem cxC_ok (S : CScope X xs sc) (I : Inv X pins σ H s) (he : ∀ b ∈ ex, b < s.heap.objs.size ∧ b ∉ frs X.stack ∧ (∀ x c, X.env.cells.lookup x = some c → c ≠ b) ∧ X.base.get? b = none) : (cxC X xs sc ex s H).Ok := by
  refine ⟨I.ok.mod, S.kind, I.ok.glob, I.ok.blt, Nat.le_refl _, fun x y c h1 h2 => ?_, fun x hx => ?_, fun _ _ h => (by cases h), I.ok.hd, I.ok.frames, .inl rfl, fun b hb => ⟨Nat.ne_of_lt (he b hb).1, fun x c h => (he b hb).2.2.1 x c (clF_lookup h).1⟩, fun b o e => ?_, ?_, fun b o e hb => ?_, fun b hb => (he b hb).2.1, I.stack, I.stkFree⟩
  · exact I.ok.inj x y c (clF_lookup h1).1 (clF_lookup h2).1
  · have hv : (relabel sc X.env).names.lookup x = some .cell ∨ (relabel sc X.env).names.lookup x = some .free := hx
    have q : (x, NameKind.free) ∈ sc.names := by
      have e : (relabel sc X.env).names.lookup x = _ := lookup_relabel X.env x sc.names
      rw [e] at hv
      cases k : sc.names.lookup x with
      | none => rw [k] at hv; simp at hv
      | some v =>
        have mem := PySem.mem_of_lookup k
        rw [k] at hv
        simp only [Option.map_some] at hv
        by_cases hvf : v = .free
        · rw [hvf] at mem; exact mem
        · have : (v == NameKind.free) = false := by simpa using hvf
          simp only [this, Bool.false_and] at hv
          rcases hv with h | h
          · exact absurd (Option.some.inj h) (S.nocell _ mem)
          · exact absurd (Option.some.inj h) hvf
    obtain ⟨c, e⟩ := S.cells I.ok x q
    exact lookup_isSome_of_mem (clF_has sc.names [] x c q e)
  · exact I.bs b o e
  · exact Nat.le_trans I.ok.bsz I.sz
  · have q : X.base.get? b = none := (he b hb).2.2.2
    have e' : X.base.get? b = some o := e
    rw [q] at e'; cases e'

/-- the block's first state -/
theorem inv_comp {h₁ : Heap} {tk : Nat} (S : CScope X xs sc) (I : Inv X pins σ H s) (he : ∀ b ∈ ex, b < s.heap.objs.size ∧ b ∉ frs X.stack ∧ (∀ x c, X.env.cells.lookup x = some c → c ≠ b) ∧ X.base.get? b = none)
    (hn : h₁.Ns s.heap.objs.size (fun _ => none)) (hk : ∀ b o, s.heap.get? b = some o → h₁.get? b = some o) :
    Inv (cxC X xs sc ex s H) [] (List.replicate xs.length none ++ σ) H { s with heap := h₁, toks := tk } := by
  have I1 : Inv X pins σ H { s with heap := h₁, toks := tk } := I.kept hk
  refine ⟨cxC_ok S I he, rfl, I.bare, Un.kept hk, ⟨_, hn, fun i x v h1 h2 h3 => ?_⟩, fun x c h => I1.cell x c (clF_lookup h).1, I.hok.fresh (Nat.le_refl _), fun x c h => I.freeC x c (clF_lookup h).1, fun p hp => absurd (show p ∈ ([] : List (Addr × Obj)) from hp) (by simp), I.hok.kept hk, ?_⟩
  · have h1' : (xs ++ X.N)[i]? = some x := h1
    by_cases hi : i < xs.length
    · rw [List.getElem?_append_left (by simpa using hi), List.getElem?_replicate, if_pos hi] at h2
      cases h2
    · have hi' : xs.length ≤ i := Nat.le_of_not_lt hi
      rw [List.getElem?_append_right (by simpa using hi')] at h2
      rw [List.getElem?_append_right hi'] at h1'
      rw [List.length_replicate] at h2
      have hm : x ∈ X.N := List.mem_of_getElem? h1'
      obtain ⟨hf, hkd⟩ := vis_relabel h3 (S.sep x hm) S.nocell
      have hko := S.frees _ hf rfl
      obtain ⟨m, _, hl⟩ := I1.loc
      obtain ⟨u, r, l⟩ := hl (i - xs.length) x v h1' h2 (by
        rcases hko with z | z
        · exact .inr (.inl z)
        · exact .inr (.inr z))
      refine ⟨u, r, .inr ⟨hkd, ?_⟩⟩
      rcases l with ⟨z, _⟩ | ⟨_, c, ec, hc⟩
      · rcases hko with q | q <;> (rw [q] at z; cases z)
      · obtain ⟨d, ed⟩ := lookup_isSome_of_mem (clF_has sc.names [] x c hf ec)
        have : c = d := by
          have := (clF_lookup ed).1
          rw [ec] at this
          exact Option.some.inj this
        subst this
        exact ⟨c, ed, hc⟩
  · show (List.replicate xs.length none ++ σ).length = (xs ++ X.N).length
    rw [List.length_append, List.length_append, List.length_replicate, I.len]
end
end L2

namespace L2
open PySem PySem.Spec PyProof.Rows

section
variable {prog : Program} {w : World} {A : Around} {R : Result → Shared → Prop} {s : Shared}
/-- a comprehension's loop, no exception leaving it -/
theorem compLoop_of {elt target iter : Expr} {ifs : List Expr} {scope : Scope} {pos : Pos} {it acc : Value} {env : Env} (I : Nat → Shared → Prop)
    (turn : ∀ n s, I n s → wpAny (model prog w) A (pyNext it) (fun r s₁ => match r with
      | none => R (.ok .next) s₁
      | some v => wpAny (model prog w) A (letOwnedTupleGo target it v) (fun _ s₁' => wpAny (model prog w) A (assign target env v) (fun _ s₂ =>
          wpAny (model prog w) A (forIn ifs true fun c r => if r = true then do let ok ← isTrue c env (eval c env); pure (ForInStep.yield ok) else pure (ForInStep.yield r)) (fun ok s₃ =>
            if ok = true then wpAny (model prog w) A (eval elt env) (fun x s₄ =>
              wpAny (model prog w) A (call (.builtin "list.append") [acc, x]) (fun _ s₅ => ∃ m, m < n ∧ I m s₅) (fun _ _ => False) s₄) (fun _ _ => False) s₃
            else ∃ m, m < n ∧ I m s₃) (fun _ _ => False) s₂) (fun _ _ => False) s₁') (fun _ _ => False) s₁) (fun _ _ => False) s)
    (n : Nat) (h : I n s) :
    codeAny (model prog w) A (.compLoop (.ListComp elt [⟨target, iter, ifs, 0⟩] scope pos) 0 it acc env) R s := by
  refine codeAny_loop rfl I (fun n s hI => ?_) n h
  show wpAny _ A ((compTurn (.ListComp elt [⟨target, iter, ifs, 0⟩] scope pos) 0 it acc env).onRaise (fun x => do noteFrame x env; theTreesLotGoes x)) _ _ s
  refine wpAny_noted ?_
  rw [compTurn_list]
  refine wpAny_bind (wpAny_standAt (wpAny_bind (wpAny_mono (turn n s hI) (fun r s₁ h₁ => ?_) fun _ _ h' => h'.elim)))
  cases r with
  | none => exact wpAny_pure h₁
  | some v =>
    refine wpAny_bind (wpAny_mono h₁ (fun _ s₁' h₁' => ?_) fun _ _ h' => h'.elim)
    refine wpAny_bind (wpAny_mono h₁' (fun _ s₂ h₂ => wpAny_bind (wpAny_mono h₂ (fun ok s₃ h₃ => ?_) fun _ _ h' => h'.elim)) fun _ _ h' => h'.elim)
    cases ok with
    | false => exact wpAny_pure ⟨rfl, h₃⟩
    | true =>
      exact wpAny_bind (wpAny_bind (wpAny_mono h₃ (fun x s₄ h₄ => wpAny_bind (wpAny_mono h₄ (fun _ s₅ h₅ => wpAny_pure (wpAny_pure ⟨rfl, h₅⟩)) fun _ _ h' => h'.elim)) fun _ _ h' => h'.elim))
end

/-- the tests of a clause -/
def PTs (X : Cx) (ifs : List Expr) (t : TT) : Prop :=
  ∀ (pins : List (Addr × Obj)) (s : Shared) (σ : St) (H : Hp) (Q : Bool → Hp → Prop), Inv X pins σ H s → t σ H Q →
    wpAny (model X.prog X.w) X.A (forIn ifs true fun c r => if r = true then do let ok ← isTrue c X.env (eval c X.env); pure (ForInStep.yield ok) else pure (ForInStep.yield r)) (TP X pins σ Q) X.xe s
def tYes : TT := fun _ H Q => Q true H
theorem pts_nil {X : Cx} : PTs X [] tYes := fun _ _ _ H _ I h => wpAny_tests_nil ⟨H, I, h⟩
theorem pts_one {X : Cx} {c : Expr} {t : TT} (h : PT X c t) : PTs X [c] t := fun pins s σ H Q I q => wpAny_tests_one (h pins s σ H Q I q)

section
variable {X : Cx} {pins : List (Addr × Obj)} {σ : St} {H : Hp} {s2 : Shared} {tg iter elt : Expr} {ifs : List Expr} {sc : Scope} {pos : Pos} {xs : List Str} {g : TG} {tc : TT} {te : TE} {J : It} {fp : List Addr} {it : Addr} {tn : Nat → Heap → Prop}
/-- a list object that stands untracked is taken into the tracked ones -/
theorem HOk.adopt {P : Program} {w : World} {H : Hp} {h : Heap} {a : Addr} {xs : List V} {its : List Value} {n : Nat} (x : HOk P w H h) (hn : H a = none) (hz : xs.length ≤ sizeLine) (r : Vals xs its) (e : h.get? a = some { cls := .type "list", data := .seq its.toArray n }) :
    HOk P w (upd H a (.lst xs)) h := fun b u q => by
  by_cases hb : b = a
  · subst hb; rw [upd_same] at q; cases q; exact ⟨hz, its, n, r, e⟩
  · rw [upd_ne hb] at q
    exact (x b u q).stay (fun c v _ q => q) (fun c q => by rw [upd_ne (ne_of_none q hn)]; exact q) fun c xs q => by rw [upd_ne (ne_of_none q hn)]; exact q

theorem comp_core {E : Value → Shared → Prop} {RR : Value → Addr → Result → Shared → Prop} (S : CScope X xs sc) (hcalm : X.calm = true)
    (hg : ∀ ex s3 H3, PG (cxC X xs sc ex s3 H3) tg g) (ht : ∀ ex s3 H3, PTs (cxC X xs sc ex s3 H3) ifs tc) (he : ∀ ex s3 H3, PE (cxC X xs sc ex s3 H3) elt te)
    (I : Inv X pins σ H s2) (T : Turn X.prog X.w X.K tg J fp it tn) (st : tn 0 s2.heap) (f2 : ∀ b ∈ fp, FpOk X pins H b)
    (W : Nat → Nat → List V → Hp → Prop) (w0 : ∃ m, W 0 m [] H) (F : List V → Hp → Prop)
    (turn : ∀ i m acc H, W i m acc H → (J.stop i H ∧ acc.length ≤ sizeLine ∧ F acc H) ∨
      (J.go i H ∧ acc.length < sizeLine ∧ ∃ N : List V → Hp → Prop, (∀ acc' H', N acc' H' → ∃ m', m' < m ∧ W (i + 1) m' acc' H') ∧ ∀ x H', J.yld i H x H' → g x (List.replicate xs.length none ++ σ) H' fun σ2 H2 => σ2.drop xs.length = σ ∧ tc σ2 H2 fun c H3 =>
        if c = true then te σ2 H3 fun y H4 => N (acc ++ [y]) H4 else N acc H3))
    (fin : ∀ D C s' acc H', (∃ m, s'.heap.Ns C m) → FpOk X pins (upd H' D (.lst acc)) C → F acc H' → H' D = none → Inv X pins σ (upd H' D (.lst acc)) s' → RR (.ref D) C (.ok .next) s') :
    wpAny (model X.prog X.w) X.A (newList []) (fun acc s3 => wpAny (model X.prog X.w) X.A (newFunctionEnv sc X.env.globals (clF X.env.cells sc.names []) [] X.env.qual none .none (some X.env)) (fun cenv s4 =>
      codeAny (model X.prog X.w) X.A (.compStart (.ListComp elt [⟨tg, iter, ifs, 0⟩] sc pos) 0 (.ref it) acc { cenv with scope := relabel sc X.env }) (RR acc cenv.locals) s4) E s3) E s2 := by
  refine wpAny_newObj_type (wpAny_newFunctionEnv S.nocell (by intro y hy; simp at hy) (fun h₁ hns₁ hsb₁ => ?_) S.kind)
  dsimp only at hns₁ hsb₁ ⊢
  generalize hH3 : s2.heap.push { cls := .type "list", dict := none, data := .seq ([] : List Value).toArray } = H3 at hns₁ hsb₁ ⊢
  have hC : H3.objs.size = s2.heap.objs.size + 1 := by rw [← hH3, Heap.size_push]
  have hDC : s2.heap.objs.size ≠ H3.objs.size := by rw [hC]; exact Nat.ne_of_lt (Nat.lt_succ_self _)
  have old3 : ∀ b o, s2.heap.get? b = some o → H3.get? b = some o := fun b o e => hH3 ▸ Heap.get?_push_of_some _ e
  have k1 : ∀ b o, H3.get? b = some o → h₁.get? b = some o := fun b o e => hsb₁.extBut b o (Nat.ne_of_lt (Heap.lt_size e)) (Heap.get?_push_of_some _ e)
  have I3 : Inv X pins σ H { s2 with heap := H3 } := I.kept old3
  have fpLt : ∀ b ∈ fp, b < s2.heap.objs.size := fun b hb => by
    obtain ⟨o, e, _⟩ := T.obj _ _ st b hb
    exact Heap.lt_size e
  have hnofr : ∀ b, s2.heap.objs.size ≤ b → b ∉ frs X.stack := fun b hb z => by
    rcases List.mem_cons.mp (I.stkSub b z) with q | q
    · exact absurd (Nat.lt_of_lt_of_le I.lt hb) (by rw [q]; exact Nat.lt_irrefl _)
    · exact I.nofs hb q
  have hnocell : ∀ b, s2.heap.objs.size ≤ b → ∀ x c, X.env.cells.lookup x = some c → c ≠ b := fun b hb x c e z => by
    obtain ⟨v, q⟩ := I.cell x c e
    exact absurd (Nat.lt_of_lt_of_le q.lt (by rw [z]; exact hb)) (Nat.lt_irrefl _)
  have hnobase : ∀ b, s2.heap.objs.size ≤ b → X.base.get? b = none := fun b hb => Heap.get?_none_of_le (Nat.le_trans (Nat.le_trans I.ok.bsz I.sz) hb)
  have fpfr : ∀ b ∈ fp, b ∉ frs X.stack := fun b hb z => by
    rcases List.mem_cons.mp (I.stkSub b z) with q | q
    · exact (f2 b hb).2.1 q
    · exact (f2 b hb).2.2.1 q
  have fpbase : ∀ b ∈ fp, X.base.get? b = none := fun b hb => by
    rcases (f2 b hb).2.2.2.1 with z | z
    · cases e : X.base.get? b with
      | none => rfl
      | some o => exact absurd z (I.ok.noex b o e)
    · exact Heap.get?_none_of_le (Nat.le_trans I.ok.bsz z)
  have hex : ∀ b ∈ (s2.heap.objs.size :: fp), b < H3.objs.size ∧ b ∉ frs X.stack ∧ (∀ x c, X.env.cells.lookup x = some c → c ≠ b) ∧ X.base.get? b = none := fun b hb => by
    rcases List.mem_cons.mp hb with z | z
    · subst z
      exact ⟨by rw [hC]; exact Nat.lt_succ_self _, hnofr _ (Nat.le_refl _), hnocell _ (Nat.le_refl _), hnobase _ (Nat.le_refl _)⟩
    · exact ⟨by rw [hC]; exact Nat.lt_succ_of_lt (fpLt b z), fpfr b z, (f2 b z).2.2.2.2.1, fpbase b z⟩
  have I4 := inv_comp (ex := s2.heap.objs.size :: fp) (tk := s2.toks + ([] : List (Str × Value)).length) S I3 hex hns₁ k1
  generalize hX' : cxC X xs sc (s2.heap.objs.size :: fp) { s2 with heap := H3 } H = X' at I4
  have hDn : H s2.heap.objs.size = none := I.hok.fresh (Nat.le_refl _)
  have hDobj : h₁.get? s2.heap.objs.size = some { cls := .type "list", data := .seq (([] : List Value)).toArray 0 } := k1 _ _ (hH3 ▸ Heap.get?_push_size _ rfl)
  have st1 : tn 0 h₁ := T.keep _ _ _ st fun b _ o e => k1 b o (old3 b o e)
  obtain ⟨m0, w0⟩ := w0
  -- the block's facts about D and the iterator, whatever the state
  have eXex : X'.ex = s2.heap.objs.size :: fp := by rw [← hX']; rfl
  have eXloc : X'.env.locals = H3.objs.size := by rw [← hX']; rfl
  have eXfs : X'.fs = frs X.stack := by rw [← hX']; rfl
  have eXcl : X'.env.cells = clF X.env.cells sc.names [] := by rw [← hX']; rfl
  have eXpn : X'.pn = [] := by rw [← hX']; rfl
  have eXm : X'.prog = X.prog ∧ X'.w = X.w ∧ X'.K = X.K ∧ X'.calm = true ∧ X'.A = X.A ∧ X'.xe = fun _ _ => False := by rw [← hX']; exact ⟨rfl, rfl, rfl, hcalm, rfl, rfl⟩
  obtain ⟨eP, ew, eK, ec, eA, exe⟩ := eXm
  have envE : X'.env = { newEnv sc H3.objs.size X.env.globals (clF X.env.cells sc.names []) X.env.qual none .none (some X.env) builtinsNs with scope := relabel sc X.env } := by rw [← hX']; rfl
  have hg' : PG X' tg g := hX' ▸ hg _ _ _
  have ht' : PTs X' ifs tc := hX' ▸ ht _ _ _
  have he' : PE X' elt te := hX' ▸ he _ _ _
  have hs0 : X'.s₀.heap = H3 := by rw [← hX']; rfl
  have hH0 : X'.H₀ = H := by rw [← hX']; rfl
  have hos : X'.s₀.os = s2.os := by rw [← hX']; rfl
  have loop : ∀ s₃ : Shared, s₃ = { s2 with heap := h₁, toks := s2.toks + ([] : List (Str × Value)).length } →
      codeAny (model X.prog X.w) X.A (.compLoop (.ListComp elt [⟨tg, iter, ifs, 0⟩] sc pos) 0 (.ref it) (.ref s2.heap.objs.size) X'.env) (RR (.ref s2.heap.objs.size) H3.objs.size) s₃ := by
    rintro s₃ rfl
    refine compLoop_of (fun n s' => ∃ i acc its k H', Inv X' [] (List.replicate xs.length none ++ σ) H' s' ∧ tn i s'.heap ∧ (∀ b ∈ fp, H' b = none) ∧ H' s2.heap.objs.size = none ∧ Vals acc its ∧
      s'.heap.get? s2.heap.objs.size = some { cls := .type "list", data := .seq its.toArray k } ∧ W i n acc H') ?_ m0
      ⟨0, [], [], 0, H, I4, st1, fun b hb => (f2 b hb).1, hDn, .nil, hDobj, w0⟩
    rintro n s' ⟨i, acc, its, k, H', I', st', fr', hD', rv, hobj, w'⟩
    have fpok : ∀ {o : Obj} {H'' : Hp}, (∀ b ∈ fp, H'' b = none) → ∀ b ∈ fp, FpOk X' [(s2.heap.objs.size, o)] H'' b := fun {o H''} hn b hb => by
      refine ⟨hn b hb, by rw [eXloc, hC]; exact Nat.ne_of_lt (Nat.lt_succ_of_lt (fpLt b hb)), by rw [eXfs]; exact fpfr b hb, .inl (by rw [eXex]; exact List.mem_cons_of_mem _ hb), fun x c e => ?_, fun p hp => ?_⟩
      · rw [eXcl] at e
        exact (f2 b hb).2.2.2.2.1 x c (clF_lookup e).1
      · rw [eXpn] at hp
        have : p = (s2.heap.objs.size, o) := by simpa using hp
        rw [this]
        exact Nat.ne_of_gt (fpLt b hb)
    have pinD : ∀ {H'' : Hp} {s'' : Shared} {σ'' : St} {o : Obj}, Inv X' [] σ'' H'' s'' → s''.heap.get? s2.heap.objs.size = some o → (∀ v, o.data ≠ .cell v) → H'' s2.heap.objs.size = none → Inv X' [(s2.heap.objs.size, o)] σ'' H'' s'' := fun {H'' s'' σ'' o} J e d hn =>
      J.pins_of fun p hp => by
        have : p = (s2.heap.objs.size, o) := by simpa using hp
        rw [this]
        exact ⟨e, hn, by rw [eXloc]; exact hDC, by rw [eXfs]; exact hnofr _ (Nat.le_refl _), d⟩
    have J := pinD I' hobj (fun v => by intro z; cases z) hD'
    rw [← eP, ← ew, ← eA]
    rcases turn i n acc H' w' with ⟨stop, hz, hF⟩ | ⟨go, hz, N, hN, step⟩
    · have q1 : wpAny (model X'.prog X'.w) X'.A (pyNext (.ref it)) (fun r s1 => r = none ∧ Inv X' [(s2.heap.objs.size, { cls := .type "list", data := .seq its.toArray k })] (List.replicate xs.length none ++ σ) H' s1) (fun _ _ => False) s' := by
        have := T.done X' eP ew eK ec i _ s' _ H' (fun _ _ => False) J (fpok fr') st' stop
        rw [eP, ew]; exact this
      refine thn q1 fun r s1 h1 => ?_
      obtain ⟨hr, J1⟩ := h1
      subst hr
      have e1 := J1.pin (s2.heap.objs.size, { cls := .type "list", data := .seq its.toArray k }) (List.mem_append_right _ List.mem_cons_self)
      -- back to the block around
      have un : Un (frs X.stack) (s2.heap.objs.size :: fp) H H' H3 s1.heap := by
        have := J1.base
        rw [eXfs, eXex, hH0, hs0] at this
        exact this
      have hok1 : HOk X.prog X.w H' s1.heap := by have := J1.hok; rw [eP, ew] at this; exact this
      obtain ⟨mC, hmC, _⟩ := J1.loc
      have hmC' : s1.heap.Ns H3.objs.size mC := by rw [eXloc] at hmC; exact hmC
      have hCfree : H' H3.objs.size = none := by have := J1.free; rw [eXloc] at this; exact this
      refine fin _ _ s1 acc H' ⟨mC, hmC'⟩ ?_ hF e1.2.1 ?_
      · refine I.fpOk (by rw [hC]; exact Nat.le_succ _) ?_
        rw [upd_ne (Ne.symm hDC)]
        exact hCfree
      · refine I.call' (ch := fp) (J1.os.trans hos) ?_ (hok1.adopt e1.2.1 hz rv e1.1) J1.bare fun b hb => ⟨(f2 b hb).2.2.2.1, (f2 b hb).2.1, (f2 b hb).2.2.2.2.1, (f2 b hb).2.2.2.2.2⟩
        have below : ∀ b o, s2.heap.get? b = some o → b ≠ s2.heap.objs.size := fun b o e => Nat.ne_of_lt (Heap.lt_size e)
        have nin : ∀ b o, s2.heap.get? b = some o → b ∉ fp → b ∉ s2.heap.objs.size :: fp := fun b o e hb z => (List.mem_cons.mp z).elim (below b o e) hb
        have trkne : ∀ b u, H b = some u → b ≠ s2.heap.objs.size := fun b u e z => by rw [z, hDn] at e; cases e
        refine ⟨fun b o e n hf hb => un.keep b o (old3 b o e) n hf (nin b o e hb), fun b o e n hf hb => un.slot b o (old3 b o e) n hf (nin b o e hb), fun b o e n hb => ?_, fun b o e hb => un.there b o (old3 b o e) (nin b o e hb), fun b ys e => ?_, fun b o u e => ?_, fun b ps e => ?_⟩
        · rw [upd_ne (below b o e)]; exact un.free b o (old3 b o e) n (nin b o e hb)
        · rw [upd_ne (trkne b _ e)]; exact un.tups b ys e
        · rw [upd_ne (trkne b _ e)]; exact un.frzs b o u e
        · rw [upd_ne (trkne b _ e)]; exact un.tbls b ps e
    · have q1 := T.item X' eP ew eK ec i _ s' _ H' (fun _ _ => False) J (fpok fr') st' go
      rw [← eP, ← ew] at q1
      have q2 := q1
      refine thn q2 fun r s1 h1 => ?_
      obtain ⟨u, hr, h4⟩ := h1
      subst hr
      dsimp only
      refine thn h4 fun _ s5 ⟨x, H5, J5, r5, y5, st5, fr5⟩ => ?_
      have J5' := J5.pinned (fpok fr5) (T.obj _ _ st5)
      have q5 := hg' _ s5 _ H5 x u _ J5' r5 (step x H5 y5)
      rw [exe] at q5
      refine thn q5 fun _ s6 ⟨σ6, H6, J6, hσ, q6⟩ => ?_
      have q7 := ht' _ s6 σ6 H6 _ J6 q6
      rw [exe] at q7
      refine thn q7 fun ok s7 ⟨H7, J7, q7⟩ => ?_
      -- the state behind a turn
      have lenσ : ∀ {H8 : Hp} {s8 : Shared} {pl : List (Addr × Obj)}, Inv X' pl σ6 H8 s8 → (List.replicate xs.length none ++ σ).length = σ6.length := fun {H8 s8 pl} J8 => J6.len.symm ▸ I4.len
      have weak : ∀ {H8 : Hp} {s8 : Shared} {pl : List (Addr × Obj)}, Inv X' pl σ6 H8 s8 → Inv X' pl (List.replicate xs.length none ++ σ) H8 s8 := fun {H8 s8 pl} J8 => by
        refine J8.weak (lenσ J8) fun j v e => ?_
        by_cases hj : j < xs.length
        · rw [List.getElem?_append_left (by simpa using hj), List.getElem?_replicate, if_pos hj] at e
          cases e
        · have hj' : xs.length ≤ j := Nat.le_of_not_lt hj
          rw [List.getElem?_append_right (by simpa using hj'), List.length_replicate, ← hσ, List.getElem?_drop] at e
          rw [← e]
          congr 1
          omega
      have back : ∀ {H8 : Hp} {s8 : Shared}, Inv X' ([(s2.heap.objs.size, { cls := .type "list", data := .seq its.toArray k })] ++ pinsAt fp s5.heap) σ6 H8 s8 →
          Inv X' [] (List.replicate xs.length none ++ σ) H8 s8 ∧ tn (i + 1) s8.heap ∧ (∀ b ∈ fp, H8 b = none) ∧ H8 s2.heap.objs.size = none ∧ s8.heap.get? s2.heap.objs.size = some { cls := .type "list", data := .seq its.toArray k } := fun {H8 s8} J8 => by
        have eD := J8.pin (s2.heap.objs.size, { cls := .type "list", data := .seq its.toArray k }) (List.mem_append_right _ (List.mem_append_left _ List.mem_cons_self))
        refine ⟨(weak J8).pins_of fun p hp => absurd hp (by simp), T.keep _ _ _ st5 fun b hb o e => (J8.pin (b, o) (List.mem_append_right _ (List.mem_append_right _ (mem_pinsAt hb e)))).1, fun b hb => ?_, eD.2.1, eD.1⟩
        obtain ⟨o, e, d⟩ := T.obj _ _ st5 b hb
        exact (J8.pin (b, o) (List.mem_append_right _ (List.mem_append_right _ (mem_pinsAt hb e)))).2.1
      cases ok with
      | false =>
        simp only [Bool.false_eq_true, if_false] at q7 ⊢
        obtain ⟨m', hm, w7⟩ := hN _ _ q7
        obtain ⟨a1, a2, a3, a4, a5⟩ := back J7
        exact ⟨m', hm, i + 1, acc, its, k, H7, a1, a2, a3, a4, rv, a5, w7⟩
      | true =>
        simp only [if_true] at q7 ⊢
        have q8 := he' _ s7 σ6 H7 _ J7 q7
        rw [exe] at q8
        refine thn q8 fun u8 s8 ⟨y, H8, J8, r8, q9⟩ => ?_
        obtain ⟨m', hm, w8⟩ := hN _ _ q9
        obtain ⟨a1, a2, a3, a4, a5⟩ := back J8
        have hits : its.length = acc.length := rv.length.symm
        refine wpAny_list_append_plain (hsz := by show its.toArray.size ≤ sizeLine; rw [List.size_toArray, hits]; exact Nat.le_of_lt hz) ⟨k, a5⟩ fun h9 hl9 hs9 => ?_
        obtain ⟨k9, e9⟩ := hl9
        refine ⟨m', hm, i + 1, acc ++ [y], its ++ [u8], k9, H8, ?_, ?_, a3, a4, rv.append (.cons r8 .nil), ?_, w8⟩
        · exact a1.turned (t' := s8.toks) (fun b o hb e => hs9.extBut b o hb e) a4 (by rw [eXloc]; exact hDC) (.inl (by rw [eXex]; exact List.mem_cons_self)) (fun x c e => by rw [eXcl] at e; exact hnocell _ (Nat.le_refl _) x c (clF_lookup e).1) (fun p hp => by rw [eXpn] at hp; simp at hp)
        · exact T.keep _ _ _ a2 fun b hb o e => hs9.extBut b o (Nat.ne_of_lt (fpLt b hb)) e
        · rw [e9]
          congr 2
          simp
  rw [show { newEnv sc H3.objs.size X.env.globals (clF X.env.cells sc.names []) X.env.qual none .none (some X.env) builtinsNs with scope := relabel sc X.env } = X'.env from envE.symm]
  exact codeAny_compStart_list (loop _ rfl) (T.self X.A 0 _ _ _ st1 (loop _ rfl))
end
end L2

namespace L2
open PySem PySem.Spec PyProof.Rows

/-- [elt for tg in iter if ..]: W the word by the turn, a measure, and what is gathered -/
def LCW (n : Nat) (J : It) (g : TG) (tc : TT) (te : TE) (σ : St) (H1 : Hp) (F : List V → Hp → Prop) : Prop :=
  ∃ W : Nat → Nat → List V → Hp → Prop, (∃ m, W 0 m [] H1) ∧ ∀ i m acc H, W i m acc H → (J.stop i H ∧ acc.length ≤ sizeLine ∧ F acc H) ∨
    (J.go i H ∧ acc.length < sizeLine ∧ ∃ N : List V → Hp → Prop, (∀ acc' H', N acc' H' → ∃ m', m' < m ∧ W (i + 1) m' acc' H') ∧ ∀ x H', J.yld i H x H' → g x (List.replicate n none ++ σ) H' fun σ2 H2 => σ2.drop n = σ ∧ tc σ2 H2 fun c H3 =>
      if c = true then te σ2 H3 fun y H4 => N (acc ++ [y]) H4 else N acc H3)
def tLC (n : Nat) (wi : TI) (g : TG) (tc : TT) (te : TE) : TE := fun σ H Q => wi σ H fun J H1 => LCW n J g tc te σ H1 fun acc H => ∀ p, H p = none → Q (.ref p) (upd H p (.lst acc))

section
variable {X : Cx} {tg iter elt : Expr} {ifs : List Expr} {sc : Scope} {pos : Pos} {xs : List Str} {wi : TI} {g : TG} {tc : TT} {te : TE}
theorem FpOk.turn {pins : List (Addr × Obj)} {σ : St} {H : Hp} {s : Shared} {C : Addr} {h' : Heap} (f : FpOk X pins H C) (I : Inv X pins σ H s) (hs : Heap.SameBut C s.heap h') : Inv X pins σ H { s with heap := h' } :=
  I.turned (t' := s.toks) (fun b o hb e => hs.extBut b o hb e) f.1 f.2.1 f.2.2.2.1 f.2.2.2.2.1 f.2.2.2.2.2
theorem pe_comp (S : CScope X xs sc) (hc : X.calm = true) (hi : PI X tg iter wi) (hg : ∀ ex s3 H3, PG (cxC X xs sc ex s3 H3) tg g) (ht : ∀ ex s3 H3, PTs (cxC X xs sc ex s3 H3) ifs tc) (he : ∀ ex s3 H3, PE (cxC X xs sc ex s3 H3) elt te)
    (hs : ∀ x, foldedSetIterable iter X.env x = pure x := by intro _; rfl) : PE X (.ListComp elt [⟨tg, iter, ifs, 0⟩] sc pos) (tLC xs.length wi g tc te) := by
  intro pins s σ H Q I h
  rw [eval_ListComp]
  refine wpAny_comprehension_free (use := none) rfl hs (closure_eq (S.cells I.ok)) S.kind S.names (thn (hi pins s σ H _ I h) fun v s1 h1 => thn h1 fun itv s2 h2 => ?_)
  obtain ⟨it, fp, tn, J, H2, e, I2, T, st2, f2, W, w0, turn⟩ := h2
  subst e
  refine comp_core (RR := fun acc C => compPost (model X.prog X.w) X.A X.xe none (EP X pins σ Q) acc C) S hc hg ht he I2 T st2 f2 W w0 _ turn fun D C s' acc H' hns fC hF hD IF => ?_
  obtain ⟨m, hm⟩ := hns
  exact ⟨m, hm, fun h' hs' => ⟨.ref D, _, fC.turn IF hs', rfl, hF D hD⟩⟩
/-- x = [..], the name stored ahead of the block's own names let go -/
theorem ps_comp {i : Nat} {y : Str} {pos' spos : Pos} (S : CScope X xs sc) (hc : X.calm = true) (hN : X.N.Nodup) (hy : X.N[i]? = some y) (hk : X.env.scope.names.lookup y = some .local)
    (hi : PI X tg iter wi) (hg : ∀ ex s3 H3, PG (cxC X xs sc ex s3 H3) tg g) (ht : ∀ ex s3 H3, PTs (cxC X xs sc ex s3 H3) ifs tc) (he : ∀ ex s3 H3, PE (cxC X xs sc ex s3 H3) elt te)
    (hsw : swapsWith (.ListComp elt [⟨tg, iter, ifs, 0⟩] sc pos) (some (.Name y pos')) spos.line X.env = pure true := by rfl)
    (hs : ∀ x, foldedSetIterable iter X.env x = pure x := by intro _; rfl) : PS X (.Assign [.Name y pos'] (.ListComp elt [⟨tg, iter, ifs, 0⟩] sc pos) spos) (tAsg (tLC xs.length wi g tc te) (gName i)) := by
  intro pins s σ H D I h
  rw [exec_Assign_Name_used _ _ _ _ hsw]
  refine wpAny_bind (wpAny_standAt (wpAny_bind ?_))
  show wpAny _ X.A (do let _ ← comprehension (.ListComp elt [⟨tg, iter, ifs, 0⟩] sc pos) sc X.env _ (newList []) false (eval iter X.env) (some (assign (.Name y pos') X.env))) _ _ s
  refine wpAny_bind (wpAny_mono (wpAny_comprehension_free (use := some (assign (.Name y pos') X.env)) (Q := fun _ s' => SP X pins D .next s') rfl hs (closure_eq (S.cells I.ok)) S.kind S.names
    (thn (hi pins s σ H _ I h) fun v s1 h1 => thn h1 fun itv s2 h2 => ?_)) (fun _ s' hq => wpAny_pure (wpAny_pure hq)) fun _ _ e => e)
  obtain ⟨it, fp, tn, J, H2, e, I2, T, st2, f2, W, w0, turn⟩ := h2
  subst e
  refine comp_core (RR := fun acc C => compPost (model X.prog X.w) X.A X.xe (some (assign (.Name y pos') X.env)) (fun _ s' => SP X pins D .next s') acc C) S hc hg ht he I2 T st2 f2 W w0 _ turn fun D' C s' acc H' hns fC hF hD IF => ?_
  obtain ⟨m, hm⟩ := hns
  refine wpAny_assign_Name (store_ok2 (v := .ref D') IF hN hy (.inl hk) rfl (fun s'' I'' hsb => ?_) (.inr hk))
  obtain ⟨a, hsb, ha⟩ := hsb
  have hne : C ≠ a := by
    rcases ha with z | z
    · rw [z]; exact fC.2.1
    · exact fun q => fC.2.2.2.2.1 y a z q.symm
  refine ⟨m, hm.sameBut hsb hne, fun h' hs' => ⟨_, _, fC.turn I'' hs', hF D' hD⟩⟩
end

/-! ### the forms one uses -/
theorem lc_list {K : PySem.W.Frag} {a : Addr} {xs : List V} {n : Nat} {g : TG} {tc : TT} {te : TE} {σ : St} {H : Hp} {F : List V → Hp → Prop} (Pv : Nat → List V → Hp → Prop) (hn : xs.length ≤ 1000000) (h0 : Pv 0 [] H)
    (hl : ∀ i acc H, i ≤ xs.length → Pv i acc H → SqL K H a xs ∧ acc.length ≤ i)
    (hs : ∀ i x acc H, xs[i]? = some x → Pv i acc H → g x (List.replicate n none ++ σ) H fun σ2 H2 => σ2.drop n = σ ∧ tc σ2 H2 fun c H3 => if c = true then te σ2 H3 fun y H4 => Pv (i + 1) (acc ++ [y]) H4 else Pv (i + 1) acc H3)
    (hd : ∀ acc H, Pv xs.length acc H → F acc H) : LCW n (Itl K a) g tc te σ H F := by
  have sz : (1000000 : Nat) < sizeLine := by rw [sizeLine_eq]; decide
  refine ⟨fun i m acc H => m = xs.length - i ∧ i ≤ xs.length ∧ Pv i acc H, ⟨xs.length, by simp, Nat.zero_le _, h0⟩, ?_⟩
  rintro i m acc H ⟨rfl, hi, p⟩
  have q := hl i acc H hi p
  by_cases hlt : i < xs.length
  · refine .inr ⟨⟨xs, xs[i], q.1, by simp [hlt]⟩, by omega, Pv (i + 1), fun acc' H' p' => ⟨xs.length - (i + 1), by omega, rfl, hlt, p'⟩, fun x H' y => ?_⟩
    obtain ⟨e, y⟩ := y
    subst e
    exact hs i x acc _ (y xs q.1) p
  · have e : i = xs.length := by omega
    subst e
    exact .inl ⟨⟨xs, q.1, Nat.le_refl _⟩, by omega, hd acc H p⟩
theorem lc_range {lo : Int} {k : Nat} {n : Nat} {g : TG} {tc : TT} {te : TE} {σ : St} {H : Hp} {F : List V → Hp → Prop} (Pv : Nat → List V → Hp → Prop) (hn : k ≤ 1000000) (h0 : Pv 0 [] H)
    (hl : ∀ i acc H, i ≤ k → Pv i acc H → acc.length ≤ i)
    (hs : ∀ i acc H, i < k → Pv i acc H → g (.int (lo + i)) (List.replicate n none ++ σ) H fun σ2 H2 => σ2.drop n = σ ∧ tc σ2 H2 fun c H3 => if c = true then te σ2 H3 fun y H4 => Pv (i + 1) (acc ++ [y]) H4 else Pv (i + 1) acc H3)
    (hd : ∀ acc H, Pv k acc H → F acc H) : LCW n (Itr lo k) g tc te σ H F := by
  have sz : (1000000 : Nat) < sizeLine := by rw [sizeLine_eq]; decide
  refine ⟨fun i m acc H => m = k - i ∧ i ≤ k ∧ Pv i acc H, ⟨k, by simp, Nat.zero_le _, h0⟩, ?_⟩
  rintro i m acc H ⟨rfl, hi, p⟩
  have q := hl i acc H hi p
  by_cases hlt : i < k
  · refine .inr ⟨hlt, by omega, Pv (i + 1), fun acc' H' p' => ⟨k - (i + 1), by omega, rfl, hlt, p'⟩, fun x H' y => ?_⟩
    obtain ⟨e, y⟩ := y
    subst e y
    exact hs i acc _ hlt p
  · have e : i = k := by omega
    subst e
    exact .inl ⟨Nat.le_refl _, by omega, hd acc H p⟩
end L2

namespace L2
open PySem PySem.Spec PyProof.Rows

section
variable {prog : Program} {w : World} {A : Around} {E : Value → Shared → Prop} {s : Shared}
theorem draw_list {it t : Addr} {items : Array Value} (hne : t ≠ it) : ∀ (n i : Nat) (s : Shared) (Q : List Value → Shared → Prop), s.heap.IsListIter it t i → s.heap.IsList t items → i + n ≤ items.size →
    (∀ h', h'.IsListIter it t (i + n) → Heap.SameBut it s.heap h' → Q ((items.toList.drop i).take n) { s with heap := h' }) → wpAny (model prog w) A (draw (.ref it) n) Q E s
  | 0, i, s, Q, hit, _, _, hQ => by
    show wpAny _ _ (pure []) Q E s
    exact wpAny_pure (by simpa using hQ s.heap hit (Heap.SameBut.refl ..))
  | n + 1, i, s, Q, hit, ht, hle, hQ => by
    have hlt : i < items.size := by omega
    show wpAny _ _ (pyNext (.ref it) >>= _) Q E s
    refine wpAny_bind (wpAny_pyNext_list_item hit ht (x := items[i]) (by simp [hlt]) fun h₁ hit₁ hs₁ => ?_)
    refine wpAny_bind (wpAny_holding (draw_list hne n (i + 1) _ _ hit₁ (ht.extBut hs₁.extBut hne) (by omega) fun h₂ hit₂ hs₂ => wpAny_pure ?_))
    have hd : items.toList.drop i = items[i] :: items.toList.drop (i + 1) := by simp [List.drop_eq_getElem_cons, hlt]
    have := hQ h₂ (by rw [show i + (n + 1) = i + 1 + n by omega]; exact hit₂) (hs₁.trans hs₂)
    rw [hd, List.take_succ_cons] at this
    exact this
theorem unpackItems_list {t : Addr} {items : Array Value} {Q : List Value → Shared → Prop} (hh : A.handled = none) (ht : s.heap.IsList t items)
    (hQ : ∀ h', Heap.ExtBut s.heap.objs.size s.heap h' → Q items.toList { s with heap := h' }) : wpAny (model prog w) A (unpackItems (.ref t) items.size none) Q E s := by
  have hlt : t ≠ s.heap.objs.size := by obtain ⟨o, ho, _⟩ := ht; exact Nat.ne_of_lt (Heap.lt_size ho)
  unfold unpackItems
  refine wpAny_bind ?_
  · unfold notIterableAtAll
    refine wpAny_bind (wpAny_specialOf ht.typeIs slot_list_iter.lookup ?_)
    refine wpAny_pure ?_
    simp only [Bool.false_eq_true, if_false]
    refine wpAny_bind (wpAny_holding (wpAny_pyIter_list ht ?_))
    refine wpAny_bind (wpAny_holding (draw_list hlt items.size 0 _ _ ⟨_, Heap.get?_push_size _ rfl, rfl, rfl⟩ (ht.push _) (by omega) fun h₁ hit₁ hs₁ => ?_))
    have hall : List.take items.size (List.drop 0 items.toList) = items.toList := by
      rw [List.drop_zero]; exact List.take_of_length_le (by simp)
    rw [hall]
    rw [if_neg (by simp)]
    have ht₁ : h₁.IsList t items := (ht.push _).extBut hs₁.extBut hlt
    refine wpAny_bind (wpAny_holding (wpAny_pyNext_list_end hh hit₁ ht₁ (by simp) fun h₂ he₂ => ?_))
    simp only [Option.isSome_none, Bool.false_eq_true, if_false]
    refine wpAny_pure (hQ h₂ fun b o hb e => he₂ b o hb (hs₁.extBut b o hb (Heap.get?_push_of_some _ e)))
theorem assign_Tuple_list {env : Env} {elts : List Expr} {x1} {pos : Pos} {t : Addr} {items : Array Value} {Q : Unit → Shared → Prop} (hh : A.handled = none) (ht : s.heap.IsList t items)
    (hn : (assignEach elts env).length = items.size) (hstar : (assignEach elts env).findIdx? (·.1) = none)
    (h : ∀ h', Heap.ExtBut s.heap.objs.size s.heap h' → wpAny (model prog w) A (assignInOrder ((assignEach elts env).map (·.2)) items.toList) Q E { s with heap := h' }) :
    wpAny (model prog w) A (assign (.Tuple elts x1 pos) env (.ref t)) Q E s := by
  rw [assign_Tuple]
  refine wpAny_bind (wpAny_standAt ?_)
  unfold unpack
  rw [hn, hstar]
  exact wpAny_bind (wpAny_holding (unpackItems_list hh ht h))
end

section
variable {X : Cx} {pos : Pos}
/-- (a, b, ..) = a list of that length -/
def gLst (K : PySem.W.Frag) (n : Nat) (t : TGs) : TG := fun v σ H Q => ∃ a xs, v = .ref a ∧ SqL K H a xs ∧ xs.length = n ∧ t xs σ H Q
theorem pg_lst {es : List Expr} {k : Nat} {t : TGs} {n : Nat} (hc : X.calm = true) (h : PGs X es t)
    (hn : (assignEach es X.env).length = n := by rfl) (hst : (assignEach es X.env).findIdx? (·.1) = none := by rfl) : PG X (.Tuple es k pos) (gLst X.K n t) := by
  intro pins s σ H v u Q I r hw
  obtain ⟨a, xs, e1, hq, hl, hw⟩ := hw
  subst e1
  cases r
  obtain ⟨its, rv, ht, hz⟩ := I.list hq
  refine assign_Tuple_list (I.ok.hd hc) ht.isList (by simp [hn, ← hl, rv.length]) hst fun h' hx => ?_
  have I1 : Inv X pins σ H { s with heap := h' } := I.kept (t' := s.toks) fun b o e => hx b o (Nat.ne_of_lt (Heap.lt_size e)) e
  exact h pins _ σ H xs _ Q I1 (by simpa using rv) hw
/-- n.bit_length() -/
theorem mt_bitlen : MtR X "int.bit_length" (fun x xs H Q => ∃ i, x = .int i ∧ xs = [] ∧ Q (.int ((Builtin.Int.intBits i : Nat) : Int)) H) := by
  intro pins s σ H x xs v us Q I rx rs h
  obtain ⟨i, rfl, rfl, q⟩ := h
  obtain ⟨t, rfl⟩ := rx
  cases rs
  exact call_int_bit_length ⟨.int _, H, I.tok _, ⟨_, rfl⟩, q⟩
end
end L2

namespace L2
open PySem PySem.Spec PyProof.Rows

/-! ### small words -/
/-- all but what stands at st is as it was -/
def But (st : Addr) (H H' : Hp) : Prop := ∀ b o, H b = some o → b ≠ st → H' b = some o
theorem But.refl (st : Addr) (H : Hp) : But st H H := fun _ _ h _ => h
theorem But.trans {st : Addr} {H H1 H2 : Hp} (a : But st H H1) (b : But st H1 H2) : But st H H2 := fun c o h n => b c o (a c o h n) n
theorem But.put (st : Addr) (H : Hp) (o : HO) : But st H (upd H st o) := fun b u e n => by rw [upd_ne n]; exact e
theorem Same.but {st : Addr} {H H' : Hp} (e : Same H H') : But st H H' := fun b o h _ => e b o h
theorem Same.new {H : Hp} {p : Addr} {o : HO} (h : H p = none) : Same H (upd H p o) := fun b u e => by rw [upd_ne (ne_of_none e h)]; exact e
theorem But.new {st : Addr} {H : Hp} {p : Addr} {o : HO} (h : H p = none) : But st H (upd H p o) := (Same.new h).but

/-- the law's script and its place: a list of the script and an int -/
def ST (K : PySem.W.Frag) (H : Hp) (st : Addr) (ns : List Int) (k : Nat) : Prop := ∃ sc, H st = some (.lst [.ref sc, .int (k : Int)]) ∧ SqL K H sc (ns.map V.int)
theorem int_ne_ref {ns : List Int} {a : Addr} {r : List V} (h : ns.map V.int = V.ref a :: r) : False := by
  cases ns with
  | nil => cases h
  | cons n m => have := (List.cons.inj h).1; cases this
theorem ST.seq {K : PySem.W.Frag} {H H' : Hp} {st sc : Addr} {ns : List Int} {v : V} (h : H st = some (.lst [.ref sc, v])) (hs : SqL K H sc (ns.map V.int)) (b : But st H H') : SqL K H' sc (ns.map V.int) := by
  rcases hs with (z | ⟨o, z⟩) | z
  · refine .inl (.inl (b _ _ z fun e => ?_))
    subst e
    rw [h] at z
    have := (HO.lst.inj (Option.some.inj z)).symm
    exact int_ne_ref this
  · refine .inl (.inr ⟨o, b _ _ z fun e => ?_⟩)
    subst e
    rw [h] at z
    cases z
  · exact .inr z
theorem ST.same {K : PySem.W.Frag} {H H' : Hp} {st : Addr} {ns : List Int} {k : Nat} (h : ST K H st ns k) (e : Same H H') : ST K H' st ns k := by
  obtain ⟨sc, h1, h2⟩ := h
  exact ⟨sc, e _ _ h1, e.seq h2⟩
theorem ST.new {K : PySem.W.Frag} {H : Hp} {st p : Addr} {ns : List Int} {k : Nat} {o : HO} (h : ST K H st ns k) (hp : H p = none) : ST K (upd H p o) st ns k := h.same (Same.new hp)
theorem ST.start {K : PySem.W.Frag} {H : Hp} {a p : Addr} {ns : List Int} (h : SqL K H a (ns.map V.int)) (hp : H p = none) : ST K (upd H p (.lst [.ref a, .int 0])) p ns 0 :=
  ⟨a, upd_same, (Same.new hp).seq h⟩

theorem nat_of {x : Int} {n : Nat} (h0 : 0 ≤ x) (h1 : x < (n : Int)) : ∃ r : Nat, x = (r : Int) ∧ r < n := ⟨x.toNat, by omega, by omega⟩
theorem shl1 (m : Nat) : (1 : Int) * 2 ^ (m : Int).toNat = ((2 ^ m : Nat) : Int) := by simp
theorem cpow1 {m : Nat} (h : m ≤ 1000) : CPow 1 (m : Int) := ⟨by omega, by omega, by decide⟩
/-! ### sets as naturals -/
theorem bitAnd_nat (a b : Nat) : Builtin.bitAnd (a : Int) (b : Int) = ((a &&& b : Nat) : Int) := by
  simp [Builtin.bitAnd]
theorem bitNot_not (x : Int) : Builtin.bitNot (Builtin.bitNot x) = x := by unfold Builtin.bitNot; omega
theorem bitOr_nat (a b : Nat) : Builtin.bitOr (a : Int) (b : Int) = ((a ||| b : Nat) : Int) := by
  have ha : ¬ 0 ≤ Builtin.bitNot (a : Int) := by unfold Builtin.bitNot; omega
  have hb : ¬ 0 ≤ Builtin.bitNot (b : Int) := by unfold Builtin.bitNot; omega
  unfold Builtin.bitOr
  simp only [Builtin.bitAnd, ha, hb, decide_false, bitNot_not, Int.toNat_natCast]
theorem two_pow_int (k : Nat) : ((2 : Int) ^ k) = ((2 ^ k : Nat) : Int) := by simp
end L2

namespace L2
open PySem PySem.Spec PyProof.Rows
/-- what is asked of a comprehension's scope, reckoned -/
def cscB (N xs : List Str) (osc sc : Scope) : Bool :=
  decide (sc.kind = .function) && sc.names.all (fun y => decide (y.2 ≠ .cell)) && sc.names.all (fun y => decide (y.2 ≠ .local) || decide (sc.names.lookup y.1 = some .local)) && xs.all (fun x => decide (sc.names.lookup x = some .local)) &&
    N.all (fun y => decide (sc.names.lookup y ≠ some .local)) && sc.names.all (fun y => decide (y.2 ≠ .free) || (decide (osc.names.lookup y.1 = some .cell) || decide (osc.names.lookup y.1 = some .free))) && decide ((xs ++ N).Nodup)
theorem cs {X : Cx} {xs : List Str} {sc : Scope} (N : List Str) (osc : Scope) (hN : X.N = N) (ho : X.env.scope = osc) (h : cscB N xs osc sc = true) : CScope X xs sc := by
  unfold cscB at h
  simp only [Bool.and_eq_true, List.all_eq_true, decide_eq_true_eq, Bool.or_eq_true] at h
  obtain ⟨⟨⟨⟨⟨⟨h1, h2⟩, h3⟩, h4⟩, h5⟩, h6⟩, h7⟩ := h
  refine ⟨h1, h2, fun y hy e => ?_, h4, by rw [hN]; exact h5, fun y hy e => ?_, by rw [hN]; exact h7⟩
  · rcases h3 y hy with z | z
    · exact absurd e z
    · exact z
  · rcases h6 y hy with z | z
    · exact absurd e z
    · show X.env.scope.names.lookup y.1 = _ ∨ X.env.scope.names.lookup y.1 = _
      rw [ho]; exact z
end L2

namespace L2
open PySem PySem.Spec PyProof.Rows
theorem mod_lo (x : Int) {m : Int} (h : 0 < m) : 0 ≤ x % m := Int.emod_nonneg _ (by omega)
theorem mod_hi (x : Int) {m : Int} (h : 0 < m) : x % m < m := Int.emod_lt_of_pos _ h
/-! ### columns of a set, as naturals -/
def vN (k : Nat) : V := V.int (k : Int)
def hasB (a k : Nat) : Bool := decide (a / 2 ^ k % 2 = 1)
def bitsN (a : Nat) : Nat := Builtin.Int.intBits (a : Int)
def colsN (a : Nat) : List Nat := (List.range (bitsN a)).filter (hasB a)
theorem bitsN_le {a : Nat} (h : a < 2 ^ 20) : bitsN a ≤ 20 := by
  unfold bitsN Builtin.Int.intBits
  split
  · omega
  · rename_i z
    have h0 : a ≠ 0 := by intro e; subst e; exact z rfl
    have : a.log2 < 20 := (Nat.log2_lt h0).mpr h
    show (a : Int).natAbs.log2 + 1 ≤ 20
    rw [Int.natAbs_natCast]
    omega
theorem dec_nat (a b : Nat) : decide (V.int (a : Int) = V.int (b : Int)) = decide (a = b) := by
  rw [dec_int, Bool.eq_iff_iff, beq_iff_eq, decide_eq_true_iff]
  exact Int.ofNat_inj
def spHas : Sp := fun vs H Q _ => ∃ a k : Nat, vs = [vN a, vN k] ∧ Q (.bl (hasB a k)) H
def spCols : Sp := fun vs H Q _ => ∃ a : Nat, vs = [vN a] ∧ a < 2 ^ 20 ∧ ∀ p, H p = none → Q (.ref p) (upd H p (.lst ((colsN a).map vN)))
def spAllOf : Sp := fun vs H Q _ => ∃ m : Nat, vs = [vN m] ∧ m ≤ 1000 ∧ Q (vN (2 ^ m - 1)) H
theorem has_eq (a k : Nat) : decide (V.int (Builtin.bitAnd ((a : Int) / 2 ^ (k : Int).toNat) 1) = V.int 1) = hasB a k := by
  have e : ((a : Int) / 2 ^ (k : Int).toNat) = ((a / 2 ^ k : Nat) : Int) := by
    rw [Int.toNat_natCast, two_pow_int]; omega
  rw [e, show (1 : Int) = ((1 : Nat) : Int) from rfl, bitAnd_nat, dec_nat, Nat.and_one_is_mod]
  rfl
theorem filt_succ (p : Nat → Bool) (i : Nat) : (List.range (i + 1)).filter p = (List.range i).filter p ++ (if p i = true then [i] else []) := by
  rw [List.range_succ, List.filter_append]
  congr 1
  cases h : p i <;> simp [h]
end L2

namespace L2
open PySem PySem.Spec PyProof.Rows
/-! ### the rules that speak of the written part, with it told (in a comprehension's block it stands under a binder) -/
section
variable {X : Cx} {K : PySem.W.Frag}
theorem ix_listK (h : X.K = K) : IxR X (rIxL K) := h ▸ ix_list
theorem ix_tupK (h : X.K = K) : IxR X (rIxT K) := h ▸ ix_tup
theorem call_lenK (h : X.K = K) : CallR X (.builtin "len") (fun xs H Q => ∃ p ys, xs = [.ref p] ∧ (SqL K H p ys ∨ SqT K H p ys) ∧ Q (.int ys.length) H) := h ▸ call_len_seq
theorem call_tupleK (h : X.K = K) : CallR X (.type "tuple") (fun xs H Q => ∃ p ys, xs = [.ref p] ∧ ((SqL K H p ys ∧ ∀ l, H l = none → Q (.ref l) (upd H l (.tup ys))) ∨ (SqT K H p ys ∧ Q (.ref p) H))) := h ▸ call_tuple_of
theorem pi_listK {tg l : Expr} {tl : TE} (h : X.K = K) (hl : PE X l tl) : PI X tg l (iList K tl) := h ▸ pi_list hl
end
end L2

namespace L2
open PySem PySem.Spec PyProof.Rows
/-! ### arithmetic of naturals -/
def rN (C : Nat → Nat → Prop) (g : Nat → Nat → V) : R2 := fun x y H Q => ∃ i j : Nat, x = vN i ∧ y = vN j ∧ C i j ∧ Q (g i j) H
def rN0 (g : Nat → Nat → V) : R2 := fun x y H Q => ∃ i j : Nat, x = vN i ∧ y = vN j ∧ Q (g i j) H
section
variable {X : Cx}
theorem OpR.mono {f : Value → Value → Sem Value} {r r' : R2} (h : OpR X f r) (k : ∀ x y H Q, r' x y H Q → r x y H Q) : OpR X f r' := fun pins s σ H x y v u Q I rx ry q => h pins s σ H x y v u Q I rx ry (k x y H Q q)
theorem op_addN : OpR X (binaryOp .Add) (rN0 fun i j => vN (i + j)) := op_add.mono fun x y H Q ⟨i, j, h1, h2, q⟩ => ⟨i, j, h1, h2, by show Q (V.int ((i : Int) + j)) H; rw [← Int.natCast_add]; exact q⟩
theorem op_subN : OpR X (binaryOp .Sub) (rN (fun i j => j ≤ i) fun i j => vN (i - j)) := op_sub.mono fun x y H Q ⟨i, j, h1, h2, h, q⟩ => ⟨i, j, h1, h2, by show Q (V.int ((i : Int) - j)) H; rw [← Int.ofNat_sub h]; exact q⟩
theorem op_mulN : OpR X (binaryOp .Mult) (rN (fun i _ => i < 2 ^ 64) fun i j => vN (i * j)) := op_mul.mono fun x y H Q ⟨i, j, h1, h2, h, q⟩ => ⟨i, j, h1, h2, .inl ⟨by omega, by omega⟩, by show Q (V.int ((i : Int) * j)) H; rw [← Int.natCast_mul]; exact q⟩
theorem op_modN' : OpR X (binaryOp .Mod) (rN (fun _ j => 0 < j) fun i j => vN (i % j)) := op_mod.mono fun x y H Q ⟨i, j, h1, h2, h, q⟩ => ⟨i, j, h1, h2, by omega, by show Q (V.int ((i : Int) % j)) H; rw [← Int.natCast_emod]; exact q⟩
theorem op_fdivN' : OpR X (binaryOp .FloorDiv) (rN (fun _ j => 0 < j ∧ j < 1073741824) fun i j => vN (i / j)) := op_fdiv.mono fun x y H Q ⟨i, j, h1, h2, h, q⟩ => ⟨i, j, h1, h2, ⟨by omega, by omega⟩, by show Q (V.int ((i : Int) / j)) H; rw [← Int.natCast_ediv]; exact q⟩
theorem op_shlN : OpR X (binaryOp .LShift) (rN (fun i j => j ≤ 1000 ∧ i < 2 ^ 64) fun i j => vN (i * 2 ^ j)) := op_shl.mono fun x y H Q ⟨i, j, h1, h2, h, q⟩ => ⟨i, j, h1, h2, ⟨by omega, by omega, by rw [Int.natAbs_natCast]; exact h.2⟩, by
  show Q (V.int ((i : Int) * 2 ^ (j : Int).toNat)) H
  rw [Int.toNat_natCast, two_pow_int, ← Int.natCast_mul]; exact q⟩
/-- 1 << j -/
theorem op_shl1 : OpR X (binaryOp .LShift) (fun x y H Q => ∃ j : Nat, x = .int 1 ∧ y = vN j ∧ j ≤ 1000 ∧ Q (vN (2 ^ j)) H) := op_shlN.mono fun x y H Q ⟨j, h1, h2, h, q⟩ => ⟨1, j, h1, h2, ⟨h, by decide⟩, by show Q (vN (1 * 2 ^ j)) H; rw [Nat.one_mul]; exact q⟩
theorem op_andN : OpR X (binaryOp .BitAnd) (rN0 fun i j => vN (i &&& j)) := op_and.mono fun x y H Q ⟨i, j, h1, h2, q⟩ => ⟨i, j, h1, h2, by show Q (V.int (Builtin.bitAnd (i : Int) j)) H; rw [bitAnd_nat]; exact q⟩
theorem op_orN : OpR X (binaryOp .BitOr) (rN0 fun i j => vN (i ||| j)) := op_or.mono fun x y H Q ⟨i, j, h1, h2, q⟩ => ⟨i, j, h1, h2, by show Q (V.int (Builtin.bitOr (i : Int) j)) H; rw [bitOr_nat]; exact q⟩
theorem op_eqN : OpR X (compareOp .Eq) (rN0 fun i j => .bl (decide (i = j))) := op_eq.mono fun x y H Q ⟨i, j, h1, h2, q⟩ => by
  subst h1 h2
  refine ⟨rfl, ?_⟩
  show Q (V.bl (decide (V.int (i : Int) = V.int (j : Int)))) H
  rw [dec_nat]; exact q
theorem op_neN : OpR X (compareOp .NotEq) (rN0 fun i j => .bl (!decide (i = j))) := op_ne.mono fun x y H Q ⟨i, j, h1, h2, q⟩ => by
  subst h1 h2
  refine ⟨rfl, ?_⟩
  show Q (V.bl (!decide (V.int (i : Int) = V.int (j : Int)))) H
  rw [dec_nat]; exact q
theorem dlt (i j : Nat) : decide ((i : Int) < (j : Int)) = decide (i < j) := by rw [decide_eq_decide]; omega
theorem dle (i j : Nat) : decide ((i : Int) ≤ (j : Int)) = decide (i ≤ j) := by rw [decide_eq_decide]; omega
theorem op_ltN : OpR X (compareOp .Lt) (rN0 fun i j => .bl (decide (i < j))) := op_lt.mono fun x y H Q ⟨i, j, h1, h2, q⟩ => ⟨i, j, h1, h2, by show Q (V.bl (decide ((i : Int) < j))) H; rw [dlt]; exact q⟩
theorem op_leN : OpR X (compareOp .LtE) (rN0 fun i j => .bl (decide (i ≤ j))) := op_le.mono fun x y H Q ⟨i, j, h1, h2, q⟩ => ⟨i, j, h1, h2, by show Q (V.bl (decide ((i : Int) ≤ j))) H; rw [dle]; exact q⟩
theorem op_gtN : OpR X (compareOp .Gt) (rN0 fun i j => .bl (decide (j < i))) := op_gt.mono fun x y H Q ⟨i, j, h1, h2, q⟩ => ⟨i, j, h1, h2, by show Q (V.bl (decide ((j : Int) < i))) H; rw [dlt]; exact q⟩
end
/-- a range from nought, its numbers as naturals -/
theorem lc_rangeN {k : Nat} {n : Nat} {g : TG} {tc : TT} {te : TE} {σ : St} {H : Hp} {F : List V → Hp → Prop} (Pv : Nat → List V → Hp → Prop) (hn : k ≤ 1000000) (h0 : Pv 0 [] H)
    (hl : ∀ i acc H, i ≤ k → Pv i acc H → acc.length ≤ i)
    (hs : ∀ i acc H, i < k → Pv i acc H → g (vN i) (List.replicate n none ++ σ) H fun σ2 H2 => σ2.drop n = σ ∧ tc σ2 H2 fun c H3 => if c = true then te σ2 H3 fun y H4 => Pv (i + 1) (acc ++ [y]) H4 else Pv (i + 1) acc H3)
    (hd : ∀ acc H, Pv k acc H → F acc H) : LCW n (Itr 0 k) g tc te σ H F :=
  lc_range Pv hn h0 hl (fun i acc H hi p => by rw [Int.zero_add]; exact hs i acc H hi p) hd
theorem for_rangeN {n : Nat} {g : TG} {tb : TS} {D : Ends} {σ : St} {H : Hp} (Pv : Nat → St → Hp → Prop) (h0 : Pv 0 σ H)
    (hs : ∀ i σ H, i < n → Pv i σ H → g (vN i) σ H fun σ2 H2 => tb { D with nx := Pv (i + 1), ct := Pv (i + 1), bk := D.nx } σ2 H2) (hd : ∀ σ H, Pv n σ H → D.nx σ H) :
    ∃ W : Nat → Nat → St → Hp → Prop, (∃ m, W 0 m σ H) ∧ ∀ i m σ H, W i m σ H →
      ((Itr 0 n).stop i H ∧ D.nx σ H) ∨ ((Itr 0 n).go i H ∧ ∃ N : St → Hp → Prop, (∀ σ' H', N σ' H' → ∃ m', m' < m ∧ W (i + 1) m' σ' H') ∧ ∀ x H', (Itr 0 n).yld i H x H' → g x σ H' fun σ2 H2 => tb { D with nx := N, ct := N, bk := D.nx } σ2 H2) :=
  for_range (lo := 0) Pv h0 (fun i σ H hi p => by rw [Int.zero_add]; exact hs i σ H hi p) hd
end L2

namespace L2
open PySem PySem.Spec PyProof.Rows
/-! ### insert, index, sorted; a name let go -/
section
variable {X : Cx} {K : PySem.W.Frag}
theorem call_sortedK (h : X.K = K) : CallR X (.builtin "sorted") (fun xs H Q => ∃ (p : Addr) (ns : List Int), xs = [.ref p] ∧ SqL K H p (ns.map V.int) ∧ ns.length < 64 ∧ ∀ (l : Addr) (ns' : List Int), H l = none → ns'.Perm ns → ns'.Pairwise (· ≤ ·) → Q (.ref l) (upd H l (.lst (ns'.map V.int)))) := by
  subst h
  intro pins s σ H xs us Q I r h
  obtain ⟨p, ns, rfl, hq, h64, q⟩ := h
  obtain ⟨u, rfl, rx⟩ := vals1 r
  cases rx
  obtain ⟨its, rv, pl, hz⟩ := I.list hq
  refine sorted_ints pl.isList (intsAre_of rv) (by rw [← rv.length, List.length_map]; exact h64) fun out ns' a1 a2 a3 => ?_
  obtain ⟨e, he⟩ := sortedAll_at s.heap its out
  refine ⟨.ref (s.heap.objs.size + 1), _, I.laid (t' := s.toks) (fun b o => sortedAll_old) (Nat.le_succ _) (show ObjOk X.prog X.w _ _ _ (.lst (ns'.map V.int)) from ⟨?_, out.toList, e, vals_ints a1, by simpa using he⟩), rfl, q _ ns' (I.hok.fresh (Nat.le_succ _)) a2 a3⟩
  rw [List.length_map, a2.length_eq]
  exact Nat.le_of_lt (small1000 (by omega))
/-- a name's value let go -/
theorem pss_forget {st : List Stmt} {t : TS} (i : Nat) (h : PSs X st t) : PSs X st (fun D σ H => t D (σ.set i none) H) := fun pins s σ H D I hw =>
  h pins s (σ.set i none) H D (I.weak (by simp) fun j v e => by
    by_cases hj : i = j
    · subst hj
      rw [List.getElem?_set] at e
      simp only [if_true] at e
      split at e <;> cases e
    · rwa [List.getElem?_set_ne hj] at e) hw
/-- a block whose own name is called like one that is let go around it -/
abbrev Cx.withN (X : Cx) (N' : List Str) : Cx := { X with N := N' }
theorem Cx.Ok.withN {X : Cx} (ok : X.Ok) (N' : List Str) : (X.withN N').Ok :=
  ⟨ok.mod, ok.kind, ok.glob, ok.blt, ok.above, ok.inj, ok.has, ok.cab, ok.hd, ok.frames, ok.stk, ok.exf, ok.bs, ok.bsz, ok.noex, ok.exfs, ok.funs, ok.frf⟩
theorem Cx.Ok.ofN {X : Cx} {N' : List Str} (ok : (X.withN N').Ok) : X.Ok :=
  ⟨ok.mod, ok.kind, ok.glob, ok.blt, ok.above, ok.inj, ok.has, ok.cab, ok.hd, ok.frames, ok.stk, ok.exf, ok.bs, ok.bsz, ok.noex, ok.exfs, ok.funs, ok.frf⟩
theorem pe_hide {e : Expr} {t : TE} (j : Nat) (hv : ¬ Vis X.env.scope "") (h : PE (X.withN (X.N.set j "")) e t) : PE X e (fun σ H Q => (∀ v, σ[j]? ≠ some (some v)) ∧ t σ H Q) := by
  intro pins s σ H Q I ⟨hd, hw⟩
  have I' : Inv (X.withN (X.N.set j "")) pins σ H s := by
    refine ⟨I.ok.withN _, I.os, I.bare, I.base, ?_, I.cell, I.free, I.freeC, I.pin, I.hok, by rw [I.len]; simp⟩
    obtain ⟨m, h1, h2⟩ := I.loc
    refine ⟨m, h1, fun i x v e1 e2 e3 => ?_⟩
    by_cases hj : j = i
    · subst hj; exact absurd e2 (hd v)
    · exact h2 i x v (by rwa [show (X.withN (X.N.set j "")).N = X.N.set j "" from rfl, List.getElem?_set_ne hj] at e1) e2 e3
  refine thn (h pins s σ H Q I' hw) fun u s' ⟨v, H', J, r, q⟩ => ⟨v, H', ?_, r, q⟩
  refine ⟨J.ok.ofN, J.os, J.bare, J.base, ?_, J.cell, J.free, J.freeC, J.pin, J.hok, I.len⟩
  obtain ⟨m, h1, h2⟩ := J.loc
  refine ⟨m, h1, fun i x v e1 e2 e3 => ?_⟩
  by_cases hj : j = i
  · subst hj; exact absurd e2 (hd v)
  · exact h2 i x v (by rwa [show (X.withN (X.N.set j "")).N = X.N.set j "" from rfl, List.getElem?_set_ne hj]) e2 e3
end
/-! ### the law's script and its place, the script frozen: lists of one's own stand apart from it -/
def SqF (K : PySem.W.Frag) (H : Hp) (a : Addr) (ns : List Int) : Prop := (∃ o, H a = some (.frz o (.lst (ns.map V.int)))) ∨
  ∃ (o : Obj) (its : Array Value) (n : Nat), K.lookup a = some o ∧ o.cls = .type "list" ∧ o.dict = none ∧ o.data = .seq its n ∧ its.size ≤ sizeLine ∧ Vals (ns.map V.int) its.toList
theorem SqF.sq {K : PySem.W.Frag} {H : Hp} {a : Addr} {ns : List Int} (h : SqF K H a ns) : SqL K H a (ns.map V.int) := by
  rcases h with ⟨o, h⟩ | h
  · exact .inl (.inr ⟨o, h⟩)
  · exact .inr h
theorem SqF.of {K : PySem.W.Frag} {H : Hp} {a : Addr} {ns : List Int} (hO : Only H) (h : SqL K H a (ns.map V.int)) : SqF K H a ns := by
  rcases h with (h | ⟨o, h⟩) | h
  · rcases hO a with z | ⟨o, xs, z⟩
    · rw [h] at z; cases z
    · rw [h] at z; cases z
  · exact .inl ⟨o, h⟩
  · exact .inr h
theorem SqF.imp {K : PySem.W.Frag} {H H' : Hp} {a : Addr} {ns : List Int} (h : SqF K H a ns) (e : ∀ o, H a = some (.frz o (.lst (ns.map V.int))) → H' a = some (.frz o (.lst (ns.map V.int)))) : SqF K H' a ns := by
  rcases h with ⟨o, h⟩ | h
  · exact .inl ⟨o, e o h⟩
  · exact .inr h
def STF (K : PySem.W.Frag) (H : Hp) (st : Addr) (ns : List Int) (k : Nat) : Prop := ∃ sc, H st = some (.lst [.ref sc, .int (k : Int)]) ∧ SqF K H sc ns
theorem STF.seq {K : PySem.W.Frag} {H H' : Hp} {st sc : Addr} {ns : List Int} {v : V} (h : H st = some (.lst [.ref sc, v])) (hs : SqF K H sc ns) (b : But st H H') : SqF K H' sc ns :=
  hs.imp fun o z => b _ _ z fun e => by
    subst e
    rw [h] at z
    cases z
theorem STF.same {K : PySem.W.Frag} {H H' : Hp} {st : Addr} {ns : List Int} {k : Nat} (h : STF K H st ns k) (e : Same H H') : STF K H' st ns k := by
  obtain ⟨sc, h1, h2⟩ := h
  exact ⟨sc, e _ _ h1, h2.imp fun o z => e _ _ z⟩
theorem STF.new {K : PySem.W.Frag} {H : Hp} {st p : Addr} {ns : List Int} {k : Nat} {o : HO} (h : STF K H st ns k) (hp : H p = none) : STF K (upd H p o) st ns k := h.same (Same.new hp)
theorem STF.start {K : PySem.W.Frag} {H : Hp} {a p : Addr} {ns : List Int} (h : SqF K H a ns) (hp : H p = none) : STF K (upd H p (.lst [.ref a, .int 0])) p ns 0 :=
  ⟨a, upd_same, h.imp fun o z => (Same.new hp) _ _ z⟩
/-- a list of one's own is written -/
theorem STF.put {K : PySem.W.Frag} {H : Hp} {st p : Addr} {ns : List Int} {k : Nat} {xs ys : List V} (h : STF K H st ns k) (hp : H p = some (.lst xs)) (hn : p ≠ st) : STF K (upd H p (.lst ys)) st ns k := by
  obtain ⟨sc, h1, h2⟩ := h
  refine ⟨sc, by rw [upd_ne (Ne.symm hn)]; exact h1, h2.imp fun o z => ?_⟩
  rw [upd_ne]
  · exact z
  · intro e
    subst e
    rw [hp] at z
    cases z
theorem STF.some {K : PySem.W.Frag} {H : Hp} {st : Addr} {ns : List Int} {k : Nat} (h : STF K H st ns k) : ∃ o, H st = some o := by
  obtain ⟨sc, h1, _⟩ := h
  exact ⟨_, h1⟩
theorem But.own {st p : Addr} {H H' : Hp} {o : HO} (b : But st H H') (hp : H p = none) : But st H (upd H' p o) := fun c u e n => by
  rw [upd_ne (ne_of_none e hp)]
  exact b c u e n
def spTakeF (K : PySem.W.Frag) : Sp := fun vs H Q _ => ∃ (st : Addr) (ns : List Int) (k : Nat) (most : Int), vs = [.ref st, .int most] ∧ STF K H st ns k ∧ k ≤ 1000000 ∧ ns.length ≤ 63 ∧ 0 < most ∧
  ∀ (r : Int) (H' : Hp), 0 ≤ r → r < most → STF K H' st ns (k + 1) → But st H H' → Q (.int r) H'
end L2

namespace L2
open PySem PySem.Spec PyProof.Rows
/-! ### ints compared, truths compared, tuples compared, all -/
section
variable {X : Cx} {K : PySem.W.Frag}
theorem dInt (i j : Int) : decide (V.int i = V.int j) = decide (i = j) := by
  rw [dec_int, Bool.eq_iff_iff, beq_iff_eq, decide_eq_true_iff]
theorem op_eqI : OpR X (compareOp .Eq) (rI0 fun i j => .bl (decide (i = j))) := op_eq.mono fun x y H Q ⟨i, j, h1, h2, q⟩ => by
  subst h1 h2
  exact ⟨rfl, by rw [dInt]; exact q⟩
theorem op_neI : OpR X (compareOp .NotEq) (rI0 fun i j => .bl (!decide (i = j))) := op_ne.mono fun x y H Q ⟨i, j, h1, h2, q⟩ => by
  subst h1 h2
  exact ⟨rfl, by rw [dInt]; exact q⟩
/-- all of a list of truths -/
theorem all_range (bs : List Bool) : ((List.range bs.length).all fun i => bs.getD i true) = bs.all id := by
  rw [Bool.eq_iff_iff, List.all_eq_true, List.all_eq_true]
  constructor
  · intro h b hb
    obtain ⟨i, hi, rfl⟩ := List.getElem_of_mem hb
    have := h i (List.mem_range.mpr hi)
    rwa [List.getD_eq_getElem?_getD, List.getElem?_eq_getElem hi] at this
  · intro h i hi
    have hi' := List.mem_range.mp hi
    rw [List.getD_eq_getElem?_getD, List.getElem?_eq_getElem hi']
    exact h _ (List.getElem_mem hi')
theorem call_allK (h : X.K = K) (hc : X.calm = true) : CallR X (.builtin "all") (fun xs H Q => ∃ (p : Addr) (bs : List Bool), xs = [.ref p] ∧ SqL K H p (bs.map V.bl) ∧ Q (.bl (bs.all id)) H) := by
  subst h
  intro pins s σ H xs us Q I r h
  obtain ⟨p, bs, rfl, hq, q⟩ := h
  obtain ⟨u, rfl, rx⟩ := vals1 r
  cases rx
  obtain ⟨its, rv, pl, hz⟩ := I.list hq
  have len : its.length = bs.length := by rw [← rv.length, List.length_map]
  refine call_all_walk (wpAny_pyIter_list pl.isList ⟨s.heap.objs.size, [s.heap.objs.size, p], [s.heap.objs.size], its.toArray.size, _, _, fun i => bs.getD i true, rfl, Walks.list (A := X.A.in1) (I.ok.hd hc) _ p (Nat.ne_of_lt pl.lt) its.toArray, ⟨⟨_, Heap.get?_push_size _ rfl, rfl, rfl⟩, pl.isList.push _⟩, fun i v s' Q' E' hP hQ => ?_, fun h' tk hk => ?_⟩)
  · have hP' : its[i]? = some v := by simpa using hP
    have hi : i < bs.length := by rw [← len]; exact (List.getElem?_eq_some_iff.mp hP').1
    obtain ⟨c, e1, r1⟩ := rv.get (i := i) (x := V.bl bs[i]) (by rw [List.getElem?_map, List.getElem?_eq_getElem hi]; rfl)
    rw [hP'] at e1
    obtain rfl := Option.some.inj e1
    obtain rfl : v = Value.bool bs[i] := r1
    refine wpAny_truthy_bool ?_
    have hQ' : Q' (bs.getD i true) s' := hQ
    rwa [List.getD_eq_getElem?_getD, List.getElem?_eq_getElem hi] at hQ'
  · refine ⟨.bl (bs.all id), H, I.kept fun b o e => hk b o (fun hm => ?_) (Heap.get?_push_of_some _ e), ?_, q⟩
    · rw [List.mem_singleton.mp hm] at e
      exact Nat.lt_irrefl _ (Heap.lt_size e)
    · show _ = Value.bool _
      rw [List.size_toArray, len, all_range]
end
end L2

namespace L2
open PySem PySem.Spec PyProof.Rows
/-! ### two tuples walked side by side -/
section
variable {prog : Program} {w : World} {A : Around} {E : Value → Shared → Prop} {s : Shared}
end
/-! ### .. as the layer walks it -/
section
variable {X : Cx} {pins : List (Addr × Obj)} {σ : St} {H : Hp} {s : Shared}
theorem Inv.turnedL {t' : Nat} {h' : Heap} {ch : List Addr} (I : Inv X pins σ H s) (k : ∀ b o, b ∉ ch → s.heap.get? b = some o → h'.get? b = some o) (hf : ∀ b ∈ ch, FpOk X pins H b) : Inv X pins σ H { s with heap := h', toks := t' } := by
  have nit : ∀ b u, H b = some u → b ∉ ch := fun b u e z => by rw [(hf b z).1] at e; cases e
  refine I.step (g' := s.gens) (d' := s.drawn) (ch := ch) (fun b hb => ?_) (fun b o _ _ hc e _ => k b o hc e) (fun b o _ _ hc e _ => ⟨o.slots, k b o hc e⟩) (fun _ _ _ _ n => n) (fun b o hc e => ⟨o, k b o hc e⟩) (fun _ _ e => e) (fun _ _ _ e => e) (fun b ps e => ⟨#[], by rw [e]; simp⟩) (fun m hm => ?_) (fun b u e => ?_) I.bare
  · obtain ⟨f0, f1, f2, f3, f4, f5⟩ := hf b hb
    exact ⟨f3, f1, f4, f5⟩
  · obtain ⟨o, es, ep, ho, r⟩ := hm
    exact ⟨o, es, ep, k _ o (fun z => (hf _ z).2.1 rfl) ho, r⟩
  · refine (I.hok b u e).stay (fun c v hc q => k c v ?_ q) (fun _ q => q) fun _ _ q => q
    rcases hc with z | z
    · rw [z]; exact nit b u e
    · exact nit c _ z
end
end L2

namespace L2
open PySem PySem.Spec PyProof.Rows
/-! ### rows of a book in the heap -/
theorem stf_fresh {K : PySem.W.Frag} {H H1 : Hp} {st p : Addr} {ns : List Int} {k : Nat} (S : STF K H1 st ns k) (B : But st H H1) (hp : H1 p = none) : H p = none ∧ p ≠ st := by
  have hn : p ≠ st := fun e => by
    obtain ⟨o, z⟩ := S.some
    rw [← e, hp] at z; cases z
  refine ⟨?_, hn⟩
  cases e : H p with
  | none => rfl
  | some o => rw [B p o e hn] at hp; cases hp
theorem stf_tup {K : PySem.W.Frag} {H H1 : Hp} {st t : Addr} {ns : List Int} {k : Nat} {xs : List V} (S : STF K H st ns k) (B : But st H H1) (h : H t = some (.tup xs)) : H1 t = some (.tup xs) :=
  B _ _ h fun e => by
    obtain ⟨sc, h1, _⟩ := S
    rw [← e, h] at h1; cases h1
def RowsAt (H : Hp) : List Addr → List (List Int) → Prop
  | [], [] => True
  | t :: ts, r :: rs => H t = some (.tup (r.map V.int)) ∧ RowsAt H ts rs
  | _, _ => False
theorem RowsAt.imp {H H' : Hp} (f : ∀ t xs, H t = some (.tup xs) → H' t = some (.tup xs)) : ∀ {ts : List Addr} {rs : List (List Int)}, RowsAt H ts rs → RowsAt H' ts rs
  | [], [], _ => trivial
  | t :: ts, r :: rs, ⟨h, q⟩ => ⟨f _ _ h, RowsAt.imp f q⟩
  | [], _ :: _, h => h.elim
  | _ :: _, [], h => h.elim
theorem RowsAt.len {H : Hp} : ∀ {ts : List Addr} {rs : List (List Int)}, RowsAt H ts rs → ts.length = rs.length
  | [], [], _ => rfl
  | t :: ts, r :: rs, ⟨_, q⟩ => by rw [List.length_cons, List.length_cons, q.len]
  | [], _ :: _, h => h.elim
  | _ :: _, [], h => h.elim
theorem RowsAt.get {H : Hp} : ∀ {ts : List Addr} {rs : List (List Int)} {i : Nat}, RowsAt H ts rs → i < rs.length → ∃ t r, ts[i]? = some t ∧ rs[i]? = some r ∧ H t = some (.tup (r.map V.int))
  | [], [], i, _, h => absurd h (Nat.not_lt_zero _)
  | t :: ts, r :: rs, 0, ⟨h, _⟩, _ => ⟨t, r, rfl, rfl, h⟩
  | t :: ts, r :: rs, i + 1, ⟨_, q⟩, h => by
    obtain ⟨t', r', a, b, c⟩ := RowsAt.get q (by simpa using h)
    exact ⟨t', r', a, b, c⟩
  | [], _ :: _, _, h, _ => h.elim
  | _ :: _, [], _, h, _ => h.elim
theorem RowsAt.snoc {H : Hp} {t : Addr} {r : List Int} (e : H t = some (.tup (r.map V.int))) : ∀ {ts : List Addr} {rs : List (List Int)}, RowsAt H ts rs → RowsAt H (ts ++ [t]) (rs ++ [r])
  | [], [], _ => ⟨e, trivial⟩
  | t' :: ts, r' :: rs, ⟨h, q⟩ => ⟨h, RowsAt.snoc e q⟩
  | [], _ :: _, h => h.elim
  | _ :: _, [], h => h.elim
/-- a list is written: tuples stay -/
theorem tup_put {H : Hp} {p : Addr} {xs ys : List V} (hp : H p = some (.lst xs)) : ∀ t zs, H t = some (.tup zs) → (upd H p (.lst ys)) t = some (.tup zs) := fun t zs e => by
  rw [upd_ne]
  · exact e
  · intro z
    rw [z, hp] at e; cases e
/-! ### what the program says of rows -/
def mixL (r1 r2 : List Int) (s : Nat) : List Int := (List.range r1.length).map fun k => if hasB s k = true then r1.getD k 0 else r2.getD k 0
def alikeL (r1 r2 : List Int) (s : Nat) : Bool := ((colsN s).map fun c => decide (r1.getD c 0 = r2.getD c 0)).all id
theorem getD_int {r : List Int} {k : Nat} (h : k < r.length) : (r.map V.int)[k]? = some (V.int (r.getD k 0)) := by
  rw [List.getElem?_map, List.getElem?_eq_getElem h, List.getD_eq_getElem?_getD, List.getElem?_eq_getElem h]; rfl
def spAlike (K : PySem.W.Frag) : Sp := fun vs H Q _ => ∃ (a b : Addr) (r1 r2 : List Int) (s : Nat), vs = [.ref a, .ref b, vN s] ∧ SqT K H a (r1.map V.int) ∧ SqT K H b (r2.map V.int) ∧ s < 2 ^ 20 ∧ (∀ c ∈ colsN s, c < r1.length ∧ c < r2.length) ∧ ∀ H', Same H H' → Q (.bl (alikeL r1 r2 s)) H'
def spMixed (K : PySem.W.Frag) : Sp := fun vs H Q _ => ∃ (a b : Addr) (r1 r2 : List Int) (s : Nat), vs = [.ref a, .ref b, vN s] ∧ SqT K H a (r1.map V.int) ∧ SqT K H b (r2.map V.int) ∧ r1.length = r2.length ∧ r1.length ≤ 20 ∧
  ∀ p H', Same H H' → H p = none → H' p = some (.tup ((mixL r1 r2 s).map V.int)) → Q (.ref p) H'
theorem Same.tupS {K : PySem.W.Frag} {H H' : Hp} {a : Addr} {xs : List V} (e : Same H H') (h : SqT K H a xs) : SqT K H' a xs := by
  rcases h with (h | ⟨o, h⟩) | h
  · exact .inl (.inl (e _ _ h))
  · exact .inl (.inr ⟨o, e _ _ h⟩)
  · exact .inr h
end L2

namespace L2
open PySem PySem.Spec PyProof.Rows

/-! ### lists of pairs as tables -/
section
variable {κ : Type} [DecidableEq κ]
def valV (kvs : List (κ × V)) (k : κ) : Option V := (kvs.find? fun kv => decide (kv.1 = k)).map (·.2)
/-- in its place, or at the end -/
def putK (kvs : List (κ × V)) (k : κ) (v : V) : List (κ × V) :=
  if (kvs.any fun kv => decide (kv.1 = k)) = true then kvs.map (fun kv => if kv.1 = k then (kv.1, v) else kv) else kvs ++ [(k, v)]
def dropK (kvs : List (κ × V)) (k : κ) : List (κ × V) := kvs.filter fun kv => decide (kv.1 ≠ k)

theorem valV_pos {p : κ × V} {r : List (κ × V)} {k : κ} (e : p.1 = k) : valV (p :: r) k = some p.2 := by simp [valV, List.find?_cons, e]
theorem valV_neg {p : κ × V} {r : List (κ × V)} {k : κ} (e : ¬ p.1 = k) : valV (p :: r) k = valV r k := by simp [valV, List.find?_cons, e]
theorem valV_any (k : κ) : ∀ kvs : List (κ × V), (kvs.any fun kv => decide (kv.1 = k)) = (valV kvs k).isSome
  | [] => rfl
  | p :: r => by
    rw [List.any_cons]
    by_cases e : p.1 = k
    · simp only [valV_pos e, decide_eq_true e, Bool.true_or, Option.isSome_some]
    · rw [valV_neg e, decide_eq_false e, Bool.false_or]; exact valV_any k r
theorem valV_map (k j : κ) (y : V) : ∀ kvs : List (κ × V), valV (kvs.map fun kv => if kv.1 = k then (kv.1, y) else kv) j = (valV kvs j).map fun x => if j = k then y else x
  | [] => rfl
  | p :: r => by
    have ih := valV_map k j y r
    rw [List.map_cons]
    by_cases h : p.1 = k
    · rw [if_pos h]
      by_cases e : p.1 = j
      · rw [valV_pos (p := (p.1, y)) e, valV_pos e, Option.map_some, if_pos (e.symm.trans h)]
      · rw [valV_neg (p := (p.1, y)) e, valV_neg e, ih]
    · rw [if_neg h]
      by_cases e : p.1 = j
      · rw [valV_pos (p := p) e, valV_pos e, Option.map_some, if_neg (fun z => h (e.trans z))]
      · rw [valV_neg (p := p) e, valV_neg e, ih]
theorem valV_snoc (k j : κ) (y : V) : ∀ kvs : List (κ × V), valV kvs k = none → valV (kvs ++ [(k, y)]) j = if j = k then some y else valV kvs j
  | [], _ => by
    by_cases e : k = j
    · rw [if_pos e.symm]; exact valV_pos (p := (k, y)) e
    · rw [if_neg (fun z => e z.symm)]; exact valV_neg (p := (k, y)) e
  | p :: r, hn => by
    rw [List.cons_append]
    have hk : ¬ p.1 = k := fun z => by rw [valV_pos z] at hn; cases hn
    rw [valV_neg hk] at hn
    have ih := valV_snoc k j y r hn
    by_cases e : p.1 = j
    · rw [valV_pos e, valV_pos e, if_neg (fun z => hk (e.trans z))]
    · rw [valV_neg e, valV_neg e, ih]
theorem valV_put (kvs : List (κ × V)) (k j : κ) (y : V) : valV (putK kvs k y) j = if j = k then some y else valV kvs j := by
  unfold putK
  by_cases a : (kvs.any fun kv => decide (kv.1 = k)) = true
  · rw [if_pos a, valV_map]
    rw [valV_any] at a
    by_cases e : j = k
    · obtain ⟨x, hx⟩ := Option.isSome_iff_exists.mp a
      rw [if_pos e, e, hx, Option.map_some, if_pos rfl]
    · rw [if_neg e]
      cases valV kvs j with
      | none => rfl
      | some x => rw [Option.map_some, if_neg e]
  · rw [if_neg a]
    refine valV_snoc k j y kvs ?_
    rw [valV_any] at a
    cases q : valV kvs k with
    | none => rfl
    | some x => rw [q] at a; exact (a rfl).elim
theorem length_putK (kvs : List (κ × V)) (k : κ) (v : V) : (putK kvs k v).length ≤ kvs.length + 1 := by
  unfold putK
  split
  · rw [List.length_map]; omega
  · rw [List.length_append, List.length_cons, List.length_nil]; omega
theorem putK_new {kvs : List (κ × V)} {k : κ} (v : V) (h : valV kvs k = none) : putK kvs k v = kvs ++ [(k, v)] := by
  unfold putK
  rw [valV_any, h]
  exact if_neg (by decide)

theorem RelO.isSome_eq {o : Option V} {u : Option Value} (r : RelO o u) : o.isSome = u.isSome := by
  cases o with
  | none => cases u with
    | none => rfl
    | some _ => exact (show False from r).elim
  | some _ => cases u with
    | none => exact (show False from r).elim
    | some _ => rfl
theorem RelO.getD {o : Option V} {u : Option Value} {d : V} {d' : Value} (r : RelO o u) (rd : RelV d d') : RelV (o.getD d) (u.getD d') := by
  cases o with
  | none => cases u with
    | none => exact rd
    | some _ => exact (show False from r).elim
  | some _ => cases u with
    | none => exact (show False from r).elim
    | some _ => exact r

/-- raw tables of the same keys -/
theorem KV.val {kvs : List (κ × V)} {vs : List (κ × Value)} (r : KV kvs vs) (k : κ) : RelO (valV kvs k) (valueAt vs k) := by
  unfold KV at r
  induction r with
  | nil => exact True.intro
  | @cons p q ps qs h t ih =>
    obtain ⟨h1, h2⟩ := h
    by_cases e : p.1 = k
    · have e' : q.1 = k := h1.symm.trans e
      have b : valueAt (q :: qs) k = some q.2 := by simp [valueAt, List.find?_cons, e']
      rw [valV_pos e, b]; exact h2
    · have e' : ¬ q.1 = k := fun z => e (h1.trans z)
      have b : valueAt (q :: qs) k = valueAt qs k := by simp [valueAt, List.find?_cons, e']
      rw [valV_neg e, b]; exact ih
theorem KV.any {kvs : List (κ × V)} {vs : List (κ × Value)} (r : KV kvs vs) (k : κ) : (kvs.any fun kv => decide (kv.1 = k)) = vs.any fun kv => decide (kv.1 = k) := by
  unfold KV at r
  induction r with
  | nil => rfl
  | cons h t ih => rw [List.any_cons, List.any_cons, ih, h.1]
theorem KV.repl {kvs : List (κ × V)} {vs : List (κ × Value)} (r : KV kvs vs) (k : κ) {y : V} {u : Value} (ry : RelV y u) :
    KV (kvs.map fun kv => if kv.1 = k then (kv.1, y) else kv) (vs.map fun kv => if kv.1 = k then (kv.1, u) else kv) := by
  unfold KV at r ⊢
  induction r with
  | nil => exact .nil
  | @cons p q ps qs h t ih =>
    rw [List.map_cons, List.map_cons]
    refine .cons ?_ ih
    obtain ⟨h1, h2⟩ := h
    by_cases e : p.1 = k
    · rw [if_pos e, if_pos (h1.symm.trans e)]; exact ⟨h1, ry⟩
    · rw [if_neg e, if_neg (fun z => e (h1.trans z))]; exact ⟨h1, h2⟩
theorem KV.put {kvs : List (κ × V)} {vs : List (κ × Value)} (r : KV kvs vs) (k : κ) {y : V} {u : Value} (ry : RelV y u) : KV (putK kvs k y) (stored vs k u) := by
  unfold putK stored
  rw [r.any k]
  by_cases e : (vs.any fun kv => decide (kv.1 = k)) = true
  · rw [if_pos e, if_pos e]; exact r.repl k ry
  · rw [if_neg e, if_neg e]; exact Paired.snoc r ⟨rfl, ry⟩
theorem KV.drop {kvs : List (κ × V)} {vs : List (κ × Value)} (r : KV kvs vs) (k : κ) : KV (dropK kvs k) (without vs k) := by
  unfold KV at r ⊢
  unfold dropK without
  induction r with
  | nil => exact .nil
  | @cons p q ps qs h t ih =>
    obtain ⟨h1, h2⟩ := h
    rw [List.filter_cons, List.filter_cons]
    by_cases e : p.1 = k
    · have a : ¬ decide (p.1 ≠ k) = true := by simp [e]
      have b : ¬ decide (q.1 ≠ k) = true := by simp [h1.symm.trans e]
      rw [if_neg a, if_neg b]; exact ih
    · have e' : ¬ q.1 = k := fun z => e (h1.trans z)
      have a : decide (p.1 ≠ k) = true := by simp [e]
      have b : decide (q.1 ≠ k) = true := by simp [e']
      rw [if_pos a, if_pos b]; exact .cons ⟨h1, h2⟩ ih
theorem KV.keys {kvs : List (κ × V)} {vs : List (κ × Value)} (r : KV kvs vs) : kvs.map (·.1) = vs.map (·.1) := by
  unfold KV at r
  induction r with
  | nil => rfl
  | cons h t ih => rw [List.map_cons, List.map_cons, ih, h.1]
theorem KV.length {kvs : List (κ × V)} {vs : List (κ × Value)} (r : KV kvs vs) : kvs.length = vs.length := Paired.length r
end


/-! ### a tracked dict, its keys ints and texts or tuples of these -/
theorem kV_is {P : Program} {w : World} {k : Key} {u : Value} (r : RelV (kV k) u) : (mixKind P w).is k u = true := by
  cases k with
  | inl i => obtain ⟨t, e⟩ := (show ∃ t, u = Value.int i t from r); subst e; exact mixKind_int P w i t
  | inr x => obtain ⟨t, e⟩ := (show ∃ t, u = Value.str x t from r); subst e; exact mixKind_str P w x t
theorem items_are {P : Program} {w : World} : ∀ {ks : List Key} {us : List Value}, Vals (ks.map kV) us → ItemsAre (mixKind P w) ks us
  | [], _, r => by rw [List.map_nil] at r; cases r; exact .nil
  | k :: ks, _, r => by
    rw [List.map_cons] at r
    cases r with
    | cons h t => exact .cons (kV_is h) (items_are t)

/-- raw entries of a dict with tuple keys -/
abbrev KT (H : Hp) : List (List Key × V) → List (List Key × Addr × Value) → Prop := Paired fun p q => p.1 = q.1 ∧ H q.2.1 = some (.tup (p.1.map kV)) ∧ RelV p.2 q.2.2
theorem KT.val {H : Hp} {kvs : List (List Key × V)} {xs : List (List Key × Addr × Value)} (r : KT H kvs xs) (k : List Key) : RelO (valV kvs k) ((atKey xs k).map (·.2)) := by
  induction r with
  | nil => exact True.intro
  | @cons p q ps qs h t ih =>
    obtain ⟨h1, _, h2⟩ := h
    by_cases e : p.1 = k
    · have e' : q.1 = k := h1.symm.trans e
      have b : atKey (q :: qs) k = some q.2 := by simp [atKey, List.find?_cons, e']
      rw [valV_pos e, b]; exact h2
    · have e' : ¬ q.1 = k := fun z => e (h1.trans z)
      have b : atKey (q :: qs) k = atKey qs k := by simp [atKey, List.find?_cons, e']
      rw [valV_neg e, b]; exact ih
theorem KT.repl {H : Hp} {kvs : List (List Key × V)} {xs : List (List Key × Addr × Value)} (r : KT H kvs xs) (k : List Key) {y : V} {u : Value} (ry : RelV y u) :
    KT H (kvs.map fun kv => if kv.1 = k then (kv.1, y) else kv) (xs.map (putAt k u)) := by
  induction r with
  | nil => exact .nil
  | @cons p q ps qs h t ih =>
    rw [List.map_cons, List.map_cons]
    refine .cons ?_ ih
    obtain ⟨h1, h2, h3⟩ := h
    unfold putAt
    by_cases e : p.1 = k
    · rw [if_pos e, if_pos (h1.symm.trans e)]; exact ⟨h1, h2, ry⟩
    · rw [if_neg e, if_neg (fun z => e (h1.trans z))]; exact ⟨h1, h2, h3⟩
theorem KT.put {H : Hp} {kvs : List (List Key × V)} {xs : List (List Key × Addr × Value)} (r : KT H kvs xs) (k : List Key) {b : Addr} {y : V} {u : Value} (hb : H b = some (.tup (k.map kV))) (ry : RelV y u) :
    KT H (putK kvs k y) (storedH xs k b u) := by
  have e : (kvs.any fun kv => decide (kv.1 = k)) = (atKey xs k).isSome := by
    rw [valV_any, (r.val k).isSome_eq, Option.isSome_map]
  unfold putK storedH
  rw [e]
  by_cases q : (atKey xs k).isSome = true
  · rw [if_pos q, if_pos q]; exact r.repl k ry
  · rw [if_neg q, if_neg q]; exact Paired.snoc r ⟨rfl, hb, ry⟩
theorem KT.keeps {H H' : Hp} {kvs : List (List Key × V)} {xs : List (List Key × Addr × Value)} (r : KT H kvs xs) (ht : ∀ b ys, H b = some (.tup ys) → H' b = some (.tup ys)) : KT H' kvs xs :=
  Paired.mapP r fun _ _ z => ⟨z.1, ht _ _ z.2.1, z.2.2⟩

section
variable {P : Program} {w : World} {H : Hp} {h : Heap} {a : Addr}
theorem rd_of {u : HO} (ok : HOk P w H h) (e : Rd H a u) : ObjOk P w H h a u := e.ok ok
theorem dk_rd {kvs : List (Key × V)} (ok : HOk P w H h) (e : Rd H a (.dK kvs)) : kvs.length ≤ sizeLine ∧ (a == sysModules) = false ∧ ∃ vs, KV kvs vs ∧ h.DictOf (mixKind P w) a vs :=
  show ObjOk P w H h a (.dK kvs) from rd_of ok e
/-- a tracked tuple of ints and texts is a key -/
theorem key_of {ks : List Key} (ok : HOk P w H h) (e : H a = some (.tup (ks.map kV))) : (tupleKind (mixKind P w)).is h ks a := by
  obtain ⟨_, its, r, o, h1, h2, n, h3⟩ := (show ObjOk P w H h a (.tup (ks.map kV)) from ok a _ e)
  exact ⟨o, its.toArray, n, h1, h2, h3, by simpa using items_are r⟩
theorem dt_rd {kvs : List (List Key × V)} (ok : HOk P w H h) (e : Rd H a (.dT kvs)) : kvs.length ≤ sizeLine ∧ (a == sysModules) = false ∧
    ∃ xs, KT H kvs xs ∧ h.DictOfH (tupleKind (mixKind P w)) a xs := by
  obtain ⟨z, y, xs, r, o, es, ep, h1, h2, h3, h4, h5⟩ := (show ObjOk P w H h a (.dT kvs) from rd_of ok e)
  refine ⟨z, y, xs, r, o, es, ep, h1, h2, h3, h4, fun x hx => ?_, h5⟩
  have all : ∀ {l : List (List Key × V)} {m : List (List Key × Addr × Value)}, KT H l m → ∀ x ∈ m, (tupleKind (mixKind P w)).is h x.1 x.2.1 := by
    intro l m q
    induction q with
    | nil => intro x hx; exact nomatch hx
    | @cons p q ps qs hq t ih =>
      intro x hx
      rcases List.mem_cons.mp hx with e | hx
      · subst e
        exact key_of ok (by rw [← hq.1]; exact hq.2.1)
      · exact ih x hx
  exact all r x hx
theorem dt_of {kvs : List (List Key × V)} (ok : HOk P w H h) (e : H a = some (.dT kvs)) : kvs.length ≤ sizeLine ∧ (a == sysModules) = false ∧
    ∃ xs, KT H kvs xs ∧ h.DictOfH (tupleKind (mixKind P w)) a xs := dt_rd ok (.inl e)
end

/-- what the dict at a holds at the key y -/
def DGet (H : Hp) (a : Addr) (y : V) (r : Option V) : Prop :=
  (∃ kvs k, Rd H a (.dK kvs) ∧ y = kV k ∧ r = valV kvs k) ∨ ∃ kvs k b, Rd H a (.dT kvs) ∧ y = .ref b ∧ H b = some (.tup (k.map kV)) ∧ r = valV kvs k
/-- the heap behind a[y] = v -/
def DPut (H : Hp) (a : Addr) (y v : V) (H' : Hp) : Prop :=
  (∃ kvs k, H a = some (.dK kvs) ∧ y = kV k ∧ kvs.length < sizeLine ∧ H' = upd H a (.dK (putK kvs k v))) ∨
  ∃ kvs k b, H a = some (.dT kvs) ∧ y = .ref b ∧ H b = some (.tup (k.map kV)) ∧ kvs.length < sizeLine ∧ H' = upd H a (.dT (putK kvs k v))
theorem DGet.k {H : Hp} {a : Addr} {kvs : List (Key × V)} {k : Key} (e : H a = some (.dK kvs)) : DGet H a (kV k) (valV kvs k) := .inl ⟨kvs, k, .inl e, rfl, rfl⟩
theorem DGet.t {H : Hp} {a b : Addr} {kvs : List (List Key × V)} {k : List Key} (e : H a = some (.dT kvs)) (eb : H b = some (.tup (k.map kV))) : DGet H a (.ref b) (valV kvs k) := .inr ⟨kvs, k, b, .inl e, rfl, eb, rfl⟩
theorem DPut.k {H : Hp} {a : Addr} {kvs : List (Key × V)} {k : Key} {v : V} (e : H a = some (.dK kvs)) (hl : kvs.length < sizeLine) : DPut H a (kV k) v (upd H a (.dK (putK kvs k v))) := .inl ⟨kvs, k, e, rfl, hl, rfl⟩
theorem DPut.t {H : Hp} {a b : Addr} {kvs : List (List Key × V)} {k : List Key} {v : V} (e : H a = some (.dT kvs)) (eb : H b = some (.tup (k.map kV))) (hl : kvs.length < sizeLine) :
    DPut H a (.ref b) v (upd H a (.dT (putK kvs k v))) := .inr ⟨kvs, k, b, e, rfl, eb, hl, rfl⟩


section
variable {X : Cx} {pins : List (Addr × Obj)} {σ : St} {H : Hp} {s : Shared} {a : Addr} {y v : V} {u r : Value} {o : Option V} {A : Around} {E : Value → Shared → Prop}

theorem Inv.big (I : Inv X pins σ H s) : sysModules < s.heap.objs.size := by
  have h : mainGlobals < s.heap.objs.size := (I.mod.glob.keeps I.bk).lt
  exact Nat.lt_trans (by decide) h

theorem d_notIn {Q : Value → Shared → Prop} (hu : A.units + 1 < cLine) (I : Inv X pins σ H s) (g : DGet H a y o) (ry : RelV y u) (h : ∀ s', Inv X pins σ H s' → Q (.bool (!o.isSome)) s') :
    wpAny (model X.prog X.w) A (compareOp .NotIn u (.ref a)) Q E s := by
  rcases g with ⟨kvs, k, e, ey, l⟩ | ⟨kvs, k, b, e, ey, eb, l⟩
  · subst ey
    obtain ⟨z, hd, vs, rel, dd⟩ := dk_rd I.hok e
    refine wpAny_notIn_of (kV_is ry) hd dd.mapOf ?_
    rw [← (rel.val k).isSome_eq, ← l]
    exact h _ (I.tok _)
  · subst ey
    cases (show u = Value.ref b from ry)
    obtain ⟨z, hd, xs, rel, dd⟩ := dt_rd I.hok e
    refine wpAny_notIn_heap (tupleKind_room_in1 hu) (key_of I.hok eb) hd dd ?_
    have q := (rel.val k).isSome_eq
    rw [Option.isSome_map] at q
    rw [← q, ← l]
    exact h _ (I.tok _)
/-- a dict's object is replaced -/
theorem d_write {h' : Heap} {t' : Nat} {ob : HO} (I : Inv X pins σ H s) (mu : Mut (H a)) (hs : Heap.SameBut a s.heap h') (he : ∃ q, h'.get? a = some q) (new : ObjOk X.prog X.w (upd H a ob) h' a ob) :
    Inv X pins σ (upd H a ob) { s with heap := h', toks := t' } :=
  I.write (x := a) (e := a) mu (.inl rfl) (fun b q hb z => (hs.2 b hb).trans z) he new
end

section
variable {X : Cx} {pins : List (Addr × Obj)} {σ : St} {H : Hp} {s : Shared} {a : Addr} {kvs : List (Key × V)} {k : Key} {u : Value} {A : Around} {E : Value → Shared → Prop}
end


/-! ### readings and rules -/
def tDNotIn (ty td : TE) : TE := fun σ H Q => ty σ H fun y H1 => td σ H1 fun x H2 => ∃ a o, x = .ref a ∧ DGet H2 a y o ∧ Q (.bl (!o.isSome)) H2
section
variable {X : Cx} {o i e value : Expr} {pos pos' tpos : Pos} {td ty tv : TE}
theorem pc_dnotin (hu : X.A.units + 1 < cLine) (hi : PE X i ty) (ho : PE X o td) : PC X .NotIn i o (tDNotIn ty td) := by
  intro pins s σ H Q I h
  refine thn (hi pins s σ H _ I h) fun iv s1 ⟨y, H1, I1, ry, q1⟩ => thn (ho pins s1 σ H1 _ I1 q1) fun u s2 ⟨x, H2, I2, rx, a, ov, ex, g, q2⟩ => ?_
  subst ex
  obtain rfl : u = Value.ref a := rx
  exact d_notIn hu I2 g ry fun s3 I3 => ⟨.bl (!ov.isSome), H2, I3, rfl, q2⟩
end


/-! ### displays -/
theorem dt_empty {P : Program} {w : World} {H : Hp} (h : Heap) (hb : sysModules < h.objs.size) : ObjOk P w H (h.push { cls := .type "dict", data := .dict #[] }) h.objs.size (.dT []) :=
  ⟨Nat.zero_le _, beq_eq_false_iff_ne.mpr (Ne.symm (Nat.ne_of_lt hb)), [], .nil, _, #[], 0, Heap.get?_push_size _ rfl, ⟨rfl, rfl, rfl⟩, rfl, rfl, List.nodup_nil⟩
def tDNewT : TE := fun _ H Q => ∀ p, H p = none → Q (.ref p) (upd H p (.dT []))
section
variable {X : Cx} {pos : Pos}
theorem pe_dnewT : PE X (.Dict [] [] pos) tDNewT := fun pins s σ H Q I h =>
  wpAny_Dict_empty ⟨.ref s.heap.objs.size, _, I.laid (a := s.heap.objs.size) (o := .dT []) (t' := s.toks) (fun _ _ q => Heap.get?_push_of_some _ q) (Nat.le_refl _) (dt_empty s.heap I.big), rfl, h _ (I.hok.fresh (Nat.le_refl _))⟩
end

/-! ### methods -/
/-- a method call o.m(e) of a built-in, with one argument: what must be seen of the text -/
structure M1 (X : Cx) (o : Expr) (m : Str) (apos : Pos) (e : Expr) (cpos : Pos) : Prop where
  base : attributeBase o m X.env (eval o X.env) = eval o X.env
  few : ((backTo cpos (starEach [e] X.env)).all (fun x => !x.1) && (backToKw cpos (keywordEach [] X.env)).all (fun x => x.1.isSome)
    && decide (([e] : List Expr).length + ([] : List Keyword).length + (if ([] : List Keyword).isEmpty then 0 else 1) < 30)) = true
  line : (apos.endLine == cpos.line) = true
  trees : backTo cpos (starEach [e] X.env) = [(false, eval e X.env)]
structure M2 (X : Cx) (o : Expr) (m : Str) (apos : Pos) (e f : Expr) (cpos : Pos) : Prop where
  base : attributeBase o m X.env (eval o X.env) = eval o X.env
  few : ((backTo cpos (starEach [e, f] X.env)).all (fun x => !x.1) && (backToKw cpos (keywordEach [] X.env)).all (fun x => x.1.isSome)
    && decide (([e, f] : List Expr).length + ([] : List Keyword).length + (if ([] : List Keyword).isEmpty then 0 else 1) < 30)) = true
  line : (apos.endLine == cpos.line) = true
  trees : backTo cpos (starEach [e, f] X.env) = [(false, eval e X.env), (false, eval f X.env)]

/-- a is a dict, whatever its keys -/
def IsD (H : Hp) (a : Addr) : Prop := (∃ kvs, Rd H a (.dK kvs)) ∨ ∃ kvs, Rd H a (.dT kvs)
theorem isD_at {X : Cx} {pins : List (Addr × Obj)} {σ : St} {H : Hp} {s : Shared} {a : Addr} (I : Inv X pins σ H s) (d : IsD H a) :
    s.TypeIs (.ref a) "dict" ∧ (∀ b, Value.ref a = .ref b → ∃ ob, s.heap.get? b = some ob ∧ ob.dict = none) ∧ (a == sysModules) = false := by
  rcases d with ⟨kvs, e⟩ | ⟨kvs, e⟩
  · obtain ⟨_, hd, vs, _, dd⟩ := dk_rd I.hok e
    refine ⟨dd.typeIs, fun b q => ?_, hd⟩
    cases q
    obtain ⟨ob, _, _, h1, h2, _⟩ := dd
    exact ⟨ob, h1, h2.2.1⟩
  · obtain ⟨_, hd, xs, _, dd⟩ := dt_rd I.hok e
    refine ⟨dd.typeIs, fun b q => ?_, hd⟩
    cases q
    obtain ⟨ob, _, _, h1, h2, _⟩ := dd
    exact ⟨ob, h1, h2.2.1⟩

section
variable {X : Cx} {pins : List (Addr × Obj)} {σ : St} {H : Hp} {s : Shared} {a : Addr} {y d : V} {u r : Value} {o : Option V} {A : Around} {E : Value → Shared → Prop}
end

section
variable {X : Cx} {o e f : Expr} {apos cpos : Pos} {td ty tx : TE}
end

/-! ### dict(d): a copy -/
section
variable {X : Cx} {pins : List (Addr × Obj)} {σ : St} {H : Hp} {s : Shared} {a : Addr} {kvs : List (Key × V)} {A : Around} {E : Value → Shared → Prop}
end


section
variable {X : Cx} {pins : List (Addr × Obj)} {σ : St} {H : Hp} {s : Shared} {a : Addr} {y : V} {u : Value} {A : Around} {E : Value → Shared → Prop}
end
end L2

namespace L2
open PySem PySem.Spec PyProof.Rows
/-! ### d.setdefault(k, x), the keys tuples -/
section
variable {prog : Program} {w : World} {A : Around} {E : Value → Shared → Prop} {s : Shared} {κ : Type} [DecidableEq κ] {kd : HeapKind prog w κ}
theorem sdH {d a : Addr} {xs : List (κ × Addr × Value)} {k : κ} {df : Value} {Q : Value → Shared → Prop} (hu : kd.room A) (hk : kd.is s.heap k a) (hm : s.heap.DictOfH kd d xs) (hz : xs.length ≤ sizeLine)
    (there : ∀ p, atKey xs k = some p → Q p.2 { s with toks := s.toks + kd.draws k })
    (fresh : atKey xs k = none → ∀ g, g.DictOfH kd d (storedH xs k a df) → Heap.SameBut d s.heap g → Q df { s with heap := g, toks := s.toks + kd.draws k }) : wpAny (model prog w) A (dictSetDefault d (.ref a) df) Q E s := by
  obtain ⟨o, es, ep, ho, hc, hd, he, his, hn⟩ := hm
  unfold dictSetDefault
  try with_reducible refine wpAny_holding ?_
  refine wpAny_bind (kd.pyHash hu hk (wpAny_bind (wpAny_dictFind_heap (s := { s with toks := s.toks + kd.draws k }) hu hk ho hd he his hn (fun no => ?_) fun j p hj => ?_)))
  · have none' : atKey xs k = none := atKey_none_of_get no
    have out : k ∉ xs.map (·.1) := not_mem_keys_of_get no
    refine wpAny_bind (wpAny_rule (wpAny_bind (wpAny_updateDictKeys (hz := by rw [size_of_entries he]; exact hz) (s := { s with toks := s.toks + kd.draws k }) ho hd (wpAny_pure (fresh none' _ ?_ (Heap.SameBut.update ..))))))
    rw [storedH_new none']
    refine ⟨_, _, ep + 1, Heap.get?_update_self _ ho (Obj.isFreed_of_dict (Obj.data_mapDictKeys hd _)), hc.mapDictKeys _, Obj.data_mapDictKeys hd _, ?_, fun x hx => ?_, ?_⟩
    · simp [he, entryOfKey]
    · rcases List.mem_append.mp hx with hx | hx
      · exact kd.keeps (his x hx) ho hd (Heap.SameBut.update ..)
      · rw [List.mem_singleton.mp hx]
        exact kd.keeps hk ho hd (Heap.SameBut.update ..)
    · rw [List.map_append, List.nodup_append]
      refine ⟨hn, by simp, fun x hx y hy e => out ?_⟩
      have hy' : y = k := by simpa using hy
      rw [← hy', ← e]
      exact hx
  · have e1 := atKey_of_get hn hj
    refine wpAny_bind (wpAny_dictEntries (s := { s with toks := s.toks + kd.draws k }) ho hd ?_)
    rw [entry_at he j, hj]
    exact wpAny_bind (wpAny_rule (wpAny_pure (there p e1)))
theorem sdH_meets {d a : Addr} {df : Value} (hd : (d == sysModules) = false) :
    MeetsIn prog w (Builtin.«dict.setdefault» ⟨[.ref d, .ref a, df], []⟩) (fun A R s => kd.room A.in1 ∧ ∃ k xs, kd.is s.heap k a ∧ s.heap.DictOfH kd d xs ∧ xs.length ≤ sizeLine ∧
      (∀ p, atKey xs k = some p → R (.ok (.ret p.2)) { s with toks := s.toks + kd.draws k }) ∧
      (atKey xs k = none → ∀ g, g.DictOfH kd d (storedH xs k a df) → Heap.SameBut d s.heap g → R (.ok (.ret df)) { s with heap := g, toks := s.toks + kd.draws k })) :=
  .of_wp fun A R s ⟨hu, k, xs, hk, hm, hz, h1, h2⟩ => by
    unfold Builtin.«dict.setdefault» Builtin.Dict.keyAndDefault
    refine wpAny_bind (wpAny_bind (wpAny_notOrdered_dict hm.typeIs (wpAny_pure ?_)))
    refine (show wpAny _ _ (if (d == sysModules) = true then _ else (dictSetDefault d (.ref a) df >>= _)) _ _ s from ?_)
    rw [hd, if_neg Bool.false_ne_true]
    exact wpAny_bind (sdH hu hk hm hz (fun p e => wpAny_pure ⟨p.2, rfl, h1 p e⟩) fun e g hg hs => wpAny_pure ⟨df, rfl, h2 e g hg hs⟩)
end
def tDSd (td ty tx : TE) : TE := fun σ H Q => td σ H fun x H1 => ∃ a, x = .ref a ∧ IsD H1 a ∧ ty σ H1 fun y H2 => tx σ H2 fun z H3 => ∃ kvs k b, H3 a = some (.dT kvs) ∧ y = .ref b ∧ H3 b = some (.tup (k.map kV)) ∧ kvs.length < sizeLine ∧
  (∀ v, valV kvs k = some v → Q v H3) ∧ (valV kvs k = none → Q z (upd H3 a (.dT (putK kvs k z))))
section
variable {X : Cx} {o e f : Expr} {apos cpos : Pos} {td ty tx : TE}
theorem pe_dsd (hu : X.A.units + 1 < cLine) (ho : PE X o td) (he : PE X e ty) (hf : PE X f tx) (m : M2 X o "setdefault" apos e f cpos) : PE X (.Call (.Attribute o "setdefault" apos) [e, f] [] cpos) (tDSd td ty tx) := by
  intro pins s σ H Q I h
  refine wpAny_Call_method m.base m.few m.line PySem.F.plainAttrs_dict PySem.F.slot_dict_setdefault PySem.F.type_dict_setdefault (thn (ho pins s σ H _ I h) fun u s1 ⟨x, H1, I1, rx, a, ex, d, q1⟩ => ?_)
  subst ex
  obtain rfl : u = Value.ref a := rx
  obtain ⟨t1, t2, _⟩ := isD_at I1 d
  refine ⟨t1, t2, ?_⟩
  rw [m.trees]
  refine Calls.callWith_builtin rfl (Calls.evalArgs_plain (Calls.spliced_cons (thn (he pins s1 σ H1 _ I1 q1) fun iv s2 ⟨y, H2, I2, ry, q2⟩ => Calls.spliced_cons (thn (hf pins s2 σ H2 _ I2 q2) fun fv s3 ⟨z, H3, I3, rz, kvs, k, b, ea, ey, eb, hl, q3, q4⟩ => Calls.spliced_nil ?_))))
  subst ey
  obtain rfl : iv = Value.ref b := ry
  obtain ⟨zz, hd, xs, rel, dd⟩ := dt_of I3.hok ea
  have hz : xs.length ≤ sizeLine := by rw [← Paired.length rel]; exact zz
  have hv := rel.val k
  refine call_meetsIn PySem.F.slot_dict_setdefault dd.typeIs PySem.F.entry_dict_setdefault (PySem.F.args_dict_setdefault_3 _ _ _) (sdH_meets (kd := tupleKind (mixKind X.prog X.w)) hd) ⟨tupleKind_room_in1 hu, k, xs, key_of I3.hok eb, dd, hz, fun p ep => ?_, fun en g hg hs => ?_⟩
  · rw [ep] at hv
    cases ev : valV kvs k with
    | none => rw [ev] at hv; exact hv.elim
    | some v =>
      rw [ev] at hv
      exact ⟨v, H3, I3.tok _, hv, q3 v ev⟩
  · have ev : valV kvs k = none := by
      rw [en] at hv
      cases ev : valV kvs k with
      | none => rfl
      | some v => rw [ev] at hv; exact hv.elim
    have hl' : (putK kvs k z).length ≤ sizeLine := by have := length_putK kvs k z; omega
    obtain ⟨qo, es, ep, hq, h2, h3, h4, _, h5⟩ := hg
    refine ⟨z, _, d_write (ob := .dT (putK kvs k z)) I3 (by rw [ea]; exact True.intro) hs ⟨qo, hq⟩ ⟨hl', hd, _, (rel.put k eb rz).keeps fun c ys ec => ?_, qo, es, ep, hq, h2, h3, h4, h5⟩, rz, q4 ev⟩
    rw [upd_ne (ne_of ec ea (fun z => nomatch z))]
    exact ec
end
end L2

namespace L2
open PySem PySem.Spec PyProof.Rows
/-! ### for v in d.values(), whatever the keys -/
section
variable {prog : Program} {w : World} {A : Around} {E : Value → Shared → Prop} {s : Shared}
theorem valsNew {d : Addr} (hd : (d == sysModules) = false) :
    MeetsIn prog w (Builtin.«dict.values» ⟨[.ref d], []⟩) (fun _ R s => s.TypeIs (.ref d) "dict" ∧ R (.ok (.ret (.ref s.heap.objs.size))) { s with heap := s.heap.push { cls := .type "dict_values", data := .fields #[.ref d] } }) :=
  .of_wp fun A R s ⟨ty, h⟩ => by
    refine wpAny_bind ?_
    unfold Builtin.Dict.noArgs
    refine wpAny_bind (wpAny_notOrdered_dict ty (wpAny_pure ?_))
    refine (show wpAny _ _ (Builtin.Dict.showsAll d >>= _) _ _ s from ?_)
    unfold Builtin.Dict.showsAll
    rw [hd, if_neg Bool.false_ne_true]
    exact wpAny_bind (wpAny_pure (wpAny_bind (wpAny_newObj_type (wpAny_pure ⟨_, rfl, h⟩))))
theorem valsIter {v d : Addr} {od : Obj} {es : Array DictEntry} {ep : Nat} {Q : Value → Shared → Prop} (hv : s.heap.IsValuesView v d) (eo : s.heap.get? d = some od) (dd : od.data = .dict es ep)
    (k : Q (.ref s.heap.objs.size) { s with heap := s.heap.push { cls := .type "dict_valueiterator", data := .fields #[.ref d, .int 0 0, .int es.size 0, .int ep 0] } }) : wpAny (model prog w) A (pyIter (.ref v)) Q E s := by
  obtain ⟨ov, ev, cv, dv⟩ := id hv
  refine wpAny_pyIter_slot hv.typeIs F.slot_dict_values_iter (wpAny_call_entry F.slot_dict_values_iter hv.typeIs F.entry_dict_values_iter ?_ (F.args_dict_values_iter_1 _))
  unfold Builtin.«dict_values.__iter__» Builtin.Dict_items.dictOf Builtin.Dict_items.newIterator
  refine wpAny_bind (wpAny_pure (wpAny_bind (wpAny_bind (wpAny_field ev dv (x := .ref d) rfl (wpAny_pure (wpAny_bind (wpAny_bind (wpAny_dictEntries eo dd (wpAny_bind (wpAny_dictEpoch eo dd ?_))))))))))
  rw [show Builtin.Dict_items.ownsTuple "dict_valueiterator" = false by decide]
  simp only [Bool.false_eq_true, if_false]
  refine wpAny_newObj_type (wpAny_pure ⟨_, rfl, "dict_valueiterator", _, ⟨_, Heap.get?_push_size _ rfl, rfl⟩, F.slot_dict_valueiterator_next.lookup, ?_⟩)
  simpa [rawInt] using k
theorem valsItem {it d : Addr} {i ep : Nat} {od : Obj} {es : Array DictEntry} {e : DictEntry} {Q : Option Value → Shared → Prop} (hI : s.heap.IsValIter it d i es.size ep) (eo : s.heap.get? d = some od) (dd : od.data = .dict es ep) (hx : es[i]? = some e)
    (k : ∀ g, g.IsValIter it d (i + 1) es.size ep → Heap.SameBut it s.heap g → Q (some e.val) { s with heap := g }) : wpAny (model prog w) A (pyNext (.ref it)) Q E s := by
  obtain ⟨oi, ei, ci, di⟩ := id hI
  unfold pyNext
  refine wpAny_bind (wpAny_attempt (wpAny_callSpecial?_slot (name := Str.ofString "__next__") hI.typeIs F.slot_dict_valueiterator_next (wpAny_call_entry F.slot_dict_valueiterator_next hI.typeIs F.entry_dict_valueiterator_next ?_ (F.args_dict_valueiterator_next_1 _))))
  refine wpAny_bind (wpAny_pure (wpAny_bind (wpAny_bind (wpAny_bind (wpAny_typeNameOfWhole_valiter hI.typeIs (wpAny_pure ?_))))))
  refine wpAny_bind (wpAny_fieldsOf ei di ?_)
  simp only [show Builtin.Dict_items.ownsTuple "dict_valueiterator" = false by decide, Bool.false_eq_true, if_false]
  refine (show wpAny _ _ (if (Value.ref d == Value.none) = true then _ else _) _ _ s from ?_)
  rw [show (Value.ref d == Value.none) = false from rfl, if_neg Bool.false_ne_true]
  refine wpAny_bind (wpAny_pure (wpAny_bind (wpAny_dictEntries eo dd ?_)))
  rw [if_neg (by simp)]
  refine wpAny_bind (wpAny_pure (wpAny_bind (wpAny_dictEpoch eo dd ?_)))
  rw [if_neg (by simp)]
  refine wpAny_pure ?_
  simp only [show ¬ ((i : Int) < 0) from by omega, if_false, Int.toNat_natCast, hx]
  refine wpAny_bind (wpAny_bind (wpAny_typeNameOfWhole_valiter hI.typeIs (wpAny_pure (wpAny_bind (wpAny_isOneOf_valiter hI.typeIs ?_)))))
  refine (show wpAny _ _ (setField (.ref it) 1 (rawInt ((i : Int) + 1)) >>= _) _ _ s from wpAny_bind (wpAny_setField ei di (by simp) ?_))
  have hI' : (s.heap.update it (Obj.mapFields (·.setIfInBounds 1 (rawInt ((i : Int) + 1))))).IsValIter it d (i + 1) es.size ep :=
    ⟨_, Heap.get?_update_self _ ei (Obj.isFreed_of_fields (Obj.data_mapFields di _)), (Obj.cls_mapFields ..).trans ci, by rw [Obj.data_mapFields di]; simp [rawInt]⟩
  have ty' : Shared.TypeIs { s with heap := s.heap.update it (Obj.mapFields (·.setIfInBounds 1 (rawInt ((i : Int) + 1)))) } (.ref it) "dict_valueiterator" := hI'.typeIs
  refine wpAny_bind (wpAny_holding (wpAny_bind (wpAny_isOneOf_valiter ty' (wpAny_bind (wpAny_isOneOf_valiter ty' ?_)))))
  exact wpAny_pure (wpAny_pure ⟨e.val, rfl, wpAny_pure (k _ hI' (Heap.SameBut.update ..))⟩)
theorem valsEnd {it d : Addr} {i ep : Nat} {od : Obj} {es : Array DictEntry} {Q : Option Value → Shared → Prop} (hh : A.handled = none) (hI : s.heap.IsValIter it d i es.size ep) (eo : s.heap.get? d = some od) (dd : od.data = .dict es ep) (hx : es[i]? = none)
    (k : ∀ g, Heap.ExtBut it s.heap g → Q none { s with heap := g }) : wpAny (model prog w) A (pyNext (.ref it)) Q E s := by
  obtain ⟨oi, ei, ci, di⟩ := id hI
  unfold pyNext
  refine wpAny_bind (wpAny_attempt (wpAny_callSpecial?_slot (name := Str.ofString "__next__") hI.typeIs F.slot_dict_valueiterator_next (wpAny_call_entry F.slot_dict_valueiterator_next hI.typeIs F.entry_dict_valueiterator_next ?_ (F.args_dict_valueiterator_next_1 _))))
  refine wpAny_bind (wpAny_pure (wpAny_bind (wpAny_bind (wpAny_bind (wpAny_typeNameOfWhole_valiter hI.typeIs (wpAny_pure ?_))))))
  refine wpAny_bind (wpAny_fieldsOf ei di ?_)
  simp only [show Builtin.Dict_items.ownsTuple "dict_valueiterator" = false by decide, Bool.false_eq_true, if_false]
  refine (show wpAny _ _ (if (Value.ref d == Value.none) = true then _ else _) _ _ s from ?_)
  rw [show (Value.ref d == Value.none) = false from rfl, if_neg Bool.false_ne_true]
  refine wpAny_bind (wpAny_pure (wpAny_bind (wpAny_dictEntries eo dd ?_)))
  rw [if_neg (by simp)]
  refine wpAny_bind (wpAny_pure (wpAny_bind (wpAny_dictEpoch eo dd ?_)))
  rw [if_neg (by simp)]
  refine wpAny_pure ?_
  simp only [show ¬ ((i : Int) < 0) from by omega, if_false, Int.toNat_natCast, hx]
  refine wpAny_bind (wpAny_bind (wpAny_typeNameOfWhole_valiter hI.typeIs (wpAny_pure ?_)))
  refine (show wpAny _ _ (setField (.ref it) 0 .none >>= _) _ _ s from wpAny_bind (wpAny_setField ei di (by simp) (wpAny_bind (m := newExc (.type "StopIteration") []) ?_)))
  simp only [newExc, newTuple]
  refine wpAny_bind (wpAny_newObj_type (wpAny_bind (m := firstArgMember _ _) (wpAny_of_eq (a := Value.none) (by first | rfl | (simp only [firstArgMember]; rfl)) (wpAny_newObj_type ?_ (by size_fits)))) (by size_fits))
  simp only [raiseNew]
  refine wpAny_bind (wpAny_handled ?_)
  rw [show A.in1.handled = none from hh]
  refine wpAny_bind (wpAny_pure (wpAny_throw ?_))
  exact wpAny_bind (wpAny_isInstance (T := "StopIteration") (b := true) ⟨_, Heap.get?_push_size _ rfl, rfl⟩ isSubtype_stop (wpAny_pure (k _ (((Heap.SameBut.update ..).extBut.push _).push _))))
end
/-- the dict at a, frozen, its values in turn -/
def Itv (a : Addr) (o : Obj) (kvs : List (List Key × V)) : It :=
  ⟨fun i H => H a = some (.frz o (.dT kvs)) ∧ i < kvs.length, fun i H x H' => H' = H ∧ ∃ k, kvs[i]? = some (k, x), fun i H => H a = some (.frz o (.dT kvs)) ∧ kvs.length ≤ i⟩
theorem KT.at {H : Hp} : ∀ {kvs : List (List Key × V)} {xs : List (List Key × Addr × Value)} {i : Nat}, KT H kvs xs → i < kvs.length → ∃ k v b u, kvs[i]? = some (k, v) ∧ xs[i]? = some (k, b, u) ∧ RelV v u
  | [], _, _, _, h => absurd h (Nat.not_lt_zero _)
  | (k, v) :: kvs, (k', b, u) :: xs, 0, .cons ⟨e, _, r⟩ _, _ => by
    have e' : k = k' := e
    subst e'
    exact ⟨k, v, b, u, rfl, rfl, r⟩
  | _ :: kvs, _ :: xs, i + 1, .cons _ t, h => by
    obtain ⟨k, v, b, u, h1, h2, h3⟩ := KT.at t (by simpa using h)
    exact ⟨k, v, b, u, by simpa using h1, by simpa using h2, h3⟩
section
variable {X : Cx} {pins : List (Addr × Obj)} {σ : St} {H : Hp} {s : Shared}
theorem turn_vals {P : Program} {w : World} {K : PySem.W.Frag} {tg : Expr} {a it : Addr} {o : Obj} {es : Array DictEntry} {ep : Nat} {kvs : List (List Key × V)} (dd : o.data = .dict es ep) : Turn P w K tg (Itv a o kvs) [it] it (fun i h => h.IsValIter it a i es.size ep) where
  mem := by simp
  obj := fun i h st b hb => by
    obtain rfl : b = it := by simpa using hb
    obtain ⟨o, e, c, d⟩ := st
    exact ⟨o, e, fun v z => by rw [d] at z; cases z⟩
  keep := fun i h h' st k => st.at fun o e => k it (by simp) o e
  item := by
    intro X hP hw hK hc i pins s σ H E I hf st hg
    subst hP hw hK
    obtain ⟨ea, hlt⟩ := hg
    obtain ⟨eo, zz, hd, xs, rel, o', es', ep', e1, _, e3, e4, _⟩ := (show ObjOk X.prog X.w H s.heap a (.frz o (.dT kvs)) from I.hok a _ ea)
    have oe : o' = o := Option.some.inj (e1.symm.trans eo)
    subst oe
    have de : es' = es ∧ ep' = ep := by
      rw [dd] at e3
      injection e3 with u1 u2
      exact ⟨u1.symm, u2.symm⟩
    obtain ⟨rfl, rfl⟩ := de
    obtain ⟨k, v, b, u, k1, k2, k3⟩ := KT.at rel hlt
    obtain ⟨f0, f1, f2, f3, f4, f5⟩ := hf it (by simp)
    have ent : es'[i]? = some (entryOfKey (tupleKind (mixKind X.prog X.w)) (k, b, u)) := by rw [entry_at e4 i, k2]; rfl
    refine valsItem st eo dd ent fun g st' sb => ⟨u, rfl, ?_⟩
    have I1 : Inv X pins σ H { s with heap := g } := I.turned (t' := s.toks) (fun b o hb e => (sb.2 b hb).trans e) f0 f1 f3 f4 f5
    obtain ⟨oi, ei, ci, di⟩ := id st'
    exact go_of (s := { s with heap := g }) ei ci di (by decide) ⟨v, H, I1, k3, ⟨rfl, k, k1⟩, st', fun b hb => (hf b hb).1⟩
  done := by
    intro X hP hw hK hc i pins s σ H E I hf st hg
    subst hP hw hK
    obtain ⟨ea, hge⟩ := hg
    obtain ⟨eo, zz, hd, xs, rel, o', es', ep', e1, _, e3, e4, _⟩ := (show ObjOk X.prog X.w H s.heap a (.frz o (.dT kvs)) from I.hok a _ ea)
    have oe : o' = o := Option.some.inj (e1.symm.trans eo)
    subst oe
    have de : es' = es ∧ ep' = ep := by
      rw [dd] at e3
      injection e3 with u1 u2
      exact ⟨u1.symm, u2.symm⟩
    obtain ⟨rfl, rfl⟩ := de
    obtain ⟨f0, f1, f2, f3, f4, f5⟩ := hf it (by simp)
    have sz : es'.size = kvs.length := by rw [size_of_entries e4, ← Paired.length rel]
    exact valsEnd (I.ok.hd hc) st eo dd (Array.getElem?_eq_none (by omega)) fun g eb => ⟨rfl, I.turned (t' := s.toks) (fun b o hb e => eb b o hb e) f0 f1 f3 f4 f5⟩
  self := fun _ _ _ _ _ st h => wpAny_pyIter_valiter st h
def iVals (td : TE) : TI := fun σ H R => td σ H fun x H1 => ∃ a kvs, x = .ref a ∧ H1 a = some (.dT kvs) ∧ ∀ o, R (Itv a o kvs) (upd H1 a (.frz o (.dT kvs)))
theorem pi_vals {tg oe : Expr} {apos cpos : Pos} {td : TE} (ho : PE X oe td) (hbase : attributeBase oe "values" X.env (eval oe X.env) = eval oe X.env := by rfl) (hline : (apos.endLine == cpos.line) = true := by rfl) :
    PI X tg (.Call (.Attribute oe "values" apos) [] [] cpos) (iVals td) := by
  intro pins s σ H R I h
  refine wpAny_Call_method0_late hbase hline (thn (ho pins s σ H _ I h) fun v s1 ⟨x, H1, I1, r1, a, kvs, ex, ea, q⟩ => ?_)
  subst ex
  obtain rfl : v = Value.ref a := r1
  obtain ⟨t1, t2, hd⟩ := isD_at I1 (.inr ⟨kvs, .inl ea⟩)
  refine ⟨"dict", "dict.values", PySem.F.plainAttrs_dict, PySem.F.slot_dict_values, PySem.F.type_dict_values, t1, t2, Calls.callWith_builtin rfl (PySem.evalArgs_none ?_)⟩
  refine call_meetsIn PySem.F.slot_dict_values t1 PySem.F.entry_dict_values (PySem.F.args_dict_values_1 _) (valsNew hd) ⟨t1, ?_⟩
  obtain ⟨zz, hd2, xs, rel, o, es, ep, e1, e2, e3, e4, e5⟩ := (show ObjOk X.prog X.w H1 s1.heap a (.dT kvs) from I1.hok a _ ea)
  have Iv : Inv X pins σ H1 { s1 with heap := s1.heap.push { cls := .type "dict_values", data := .fields #[.ref a] } } := I1.kept (t' := s1.toks) fun b ob e => Heap.get?_push_of_some _ e
  refine valsIter (s := { s1 with heap := s1.heap.push { cls := .type "dict_values", data := .fields #[.ref a] } }) ⟨_, Heap.get?_push_size _ rfl, rfl, rfl⟩ (Heap.get?_push_of_some _ e1) e3 ?_
  have Iw := Iv.kept (t' := s1.toks) (h' := (s1.heap.push { cls := .type "dict_values", data := .fields #[.ref a] }).push { cls := .type "dict_valueiterator", data := .fields #[.ref a, .int 0 0, .int es.size 0, .int ep 0] }) fun b ob e => Heap.get?_push_of_some _ e
  have eo : ((s1.heap.push { cls := .type "dict_values", data := .fields #[.ref a] }).push { cls := .type "dict_valueiterator", data := .fields #[.ref a, .int 0 0, .int es.size 0, .int ep 0] }).get? a = some o := Heap.get?_push_of_some _ (Heap.get?_push_of_some _ e1)
  have If := Iw.write (x := a) (e := a) (o := .frz o (.dT kvs)) (t' := s1.toks) (h' := (s1.heap.push { cls := .type "dict_values", data := .fields #[.ref a] }).push { cls := .type "dict_valueiterator", data := .fields #[.ref a, .int 0 0, .int es.size 0, .int ep 0] }) (by rw [ea]; exact True.intro) (.inl rfl) (fun b u _ e => e) ⟨o, eo⟩
    ⟨eo, zz, hd2, xs, KT.keeps rel (fun b ys eb => by rw [upd_ne (ne_of eb ea (fun z => nomatch z))]; exact eb), o, es, ep, eo, e2, e3, e4, e5⟩
  refine ⟨_, [_], _, Itv a o kvs, _, rfl, If, turn_vals e3, ⟨_, Heap.get?_push_size _ rfl, rfl, rfl⟩, fun b hb => ?_, q o⟩
  have eb : b = (s1.heap.push { cls := .type "dict_values", data := .fields #[.ref a] }).objs.size := by simpa using hb
  subst eb
  refine Iv.fpOk (Nat.le_refl _) ?_
  rw [upd_ne]
  · exact Iv.hok.fresh (Nat.le_refl _)
  · intro z
    have := Iv.hok.fresh (a := (s1.heap.push { cls := .type "dict_values", data := .fields #[.ref a] }).objs.size) (Nat.le_refl _)
    rw [z, ea] at this
    cases this
/-! ### the forms one uses -/
theorem for_vals {a : Addr} {o : Obj} {kvs : List (List Key × V)} {g : TG} {tb : TS} {D : Ends} {σ : St} {H : Hp} (Pv : Nat → St → Hp → Prop) (h0 : Pv 0 σ H) (hl : ∀ i σ H, i ≤ kvs.length → Pv i σ H → H a = some (.frz o (.dT kvs)))
    (hs : ∀ i k x σ H, kvs[i]? = some (k, x) → Pv i σ H → g x σ H fun σ2 H2 => tb { D with nx := Pv (i + 1), ct := Pv (i + 1), bk := D.nx } σ2 H2) (hd : ∀ σ H, Pv kvs.length σ H → D.nx σ H) :
    ∃ W : Nat → Nat → St → Hp → Prop, (∃ m, W 0 m σ H) ∧ ∀ i m σ H, W i m σ H →
      ((Itv a o kvs).stop i H ∧ D.nx σ H) ∨ ((Itv a o kvs).go i H ∧ ∃ N : St → Hp → Prop, (∀ σ' H', N σ' H' → ∃ m', m' < m ∧ W (i + 1) m' σ' H') ∧ ∀ x H', (Itv a o kvs).yld i H x H' → g x σ H' fun σ2 H2 => tb { D with nx := N, ct := N, bk := D.nx } σ2 H2) := by
  refine ⟨fun i m σ H => m = kvs.length - i ∧ i ≤ kvs.length ∧ Pv i σ H, ⟨kvs.length, by simp, Nat.zero_le _, h0⟩, ?_⟩
  rintro i m σ H ⟨rfl, hi, p⟩
  have q := hl i σ H hi p
  by_cases lt : i < kvs.length
  · refine .inr ⟨⟨q, lt⟩, Pv (i + 1), fun σ' H' p' => ⟨kvs.length - (i + 1), by omega, rfl, lt, p'⟩, fun x H' y => ?_⟩
    obtain ⟨rfl, k, e⟩ := y
    exact hs i k x σ _ e p
  · obtain rfl : i = kvs.length := by omega
    exact .inl ⟨⟨q, Nat.le_refl _⟩, hd σ H p⟩
theorem lc_vals {a : Addr} {o : Obj} {kvs : List (List Key × V)} {n : Nat} {g : TG} {tc : TT} {te : TE} {σ : St} {H : Hp} {F : List V → Hp → Prop} (Pv : Nat → List V → Hp → Prop) (hn : kvs.length ≤ 1000000) (h0 : Pv 0 [] H)
    (hl : ∀ i acc H, i ≤ kvs.length → Pv i acc H → H a = some (.frz o (.dT kvs)) ∧ acc.length ≤ i)
    (hs : ∀ i k x acc H, kvs[i]? = some (k, x) → Pv i acc H → g x (List.replicate n none ++ σ) H fun σ2 H2 => σ2.drop n = σ ∧ tc σ2 H2 fun c H3 => if c = true then te σ2 H3 fun y H4 => Pv (i + 1) (acc ++ [y]) H4 else Pv (i + 1) acc H3)
    (hd : ∀ acc H, Pv kvs.length acc H → F acc H) : LCW n (Itv a o kvs) g tc te σ H F := by
  have sz : (1000000 : Nat) < sizeLine := by rw [sizeLine_eq]; decide
  refine ⟨fun i m acc H => m = kvs.length - i ∧ i ≤ kvs.length ∧ Pv i acc H, ⟨kvs.length, by simp, Nat.zero_le _, h0⟩, ?_⟩
  rintro i m acc H ⟨rfl, hi, p⟩
  obtain ⟨q, ql⟩ := hl i acc H hi p
  by_cases lt : i < kvs.length
  · refine .inr ⟨⟨q, lt⟩, by omega, Pv (i + 1), fun acc' H' p' => ⟨kvs.length - (i + 1), by omega, rfl, lt, p'⟩, fun x H' y => ?_⟩
    obtain ⟨rfl, k, e⟩ := y
    exact hs i k x acc _ e p
  · obtain rfl : i = kvs.length := by omega
    exact .inl ⟨⟨q, Nat.le_refl _⟩, by omega, hd acc H p⟩
end
end L2

namespace L2
open PySem PySem.Spec PyProof.Rows
/-! ### dict of a list of pairs, the keys tuples -/
section
variable {prog : Program} {w : World} {A : Around} {E : Value → Shared → Prop} {s : Shared}
theorem noKeys : typeLookup (.type "list") "keys" = pure none := by rw [typeLookup_type, builtinLookup_eq_fast]; kernel_rfl
theorem noGetattr : typeLookup (.type "list") "__getattr__" = pure none := by rw [typeLookup_type, builtinLookup_eq_fast]; kernel_rfl
theorem lacksKeys (a : Addr) (u : Tok) (its : Array Value) (n : Nat) (sl : Array (Option Value)) :
    Meets (Builtin.«object.__getattribute__» ⟨[.ref a, .str "keys" u], []⟩) (fun A R s => s.heap.get? a = some { cls := .type "list", dict := none, data := .seq its n, slots := sl } ∧ raisesAttr (.ref a) "keys" A R s) :=
  Meets.of_wp fun prog w A R s hs => by
    obtain ⟨hp, g, d, tk, os⟩ := s
    obtain ⟨hx, hs⟩ := hs
    have hT : (⟨hp, g, d, tk, os⟩ : Shared).TypeIs (.ref a) "list" := ⟨_, hx, rfl⟩
    have f1 := noKeys
    unfold Builtin.«object.__getattribute__»
    repeat (any_goals (first | assumption | wp_step))
    exact wpAny_raiseAttrError hs.1 hs.2 (attrMsg_fits (by decide +kernel) (by size_fits))
theorem keysNone {a : Addr} {its : Array Value} {n : Nat} {sl : Array (Option Value)} {Q : Option Value → Shared → Prop} (hA : A.handled = none) (hx : s.heap.get? a = some { cls := .type "list", dict := none, data := .seq its n, slots := sl })
    (k : ∀ g tk, (∀ b ob, s.heap.get? b = some ob → g.get? b = some ob) → Q none { s with heap := g, toks := tk }) : wpAny (model prog w) A (getAttr? (.ref a) "keys") Q E s := by
  obtain ⟨hp, g, d, tk, os⟩ := s
  have hT : (⟨hp, g, d, tk, os⟩ : Shared).TypeIs (.ref a) "list" := ⟨_, hx, rfl⟩
  have hT' : ∀ t' : Nat, (⟨hp, g, d, t', os⟩ : Shared).TypeIs (.ref a) "list" := fun _ => ⟨_, hx, rfl⟩
  have f1 := sub_AttributeError
  have f3 := F.slot_list_getattribute.lookup
  have f4 := F.slot_list_getattribute.bind (.ref a)
  have f5 := noGetattr
  unfold getAttr? getAttrBy? getAttrBy
  repeat (any_goals (first | assumption | ((with_reducible show wpAny _ _ (call (Value.builtin "list.__getattribute__") _ _) _ _ _); refine call_meets F.slot_list_getattribute (hT' _) F.entry_list_ga (F.args_list_getattribute_2 _ _) (lacksKeys a _ its n sl) ⟨hx, hA, fun h' tk' e he => ?_⟩) | wp_step))
  obtain ⟨t', u', ee⟩ := he.there
  refine (show wpAny _ _ (getattributeRaised _ _ _ _ _ _ _) _ _ _ from ?_)
  unfold getattributeRaised
  repeat (any_goals (first | assumption | wp_step))
  exact k _ _ he.keeps
end
end L2

namespace L2
open PySem PySem.Spec PyProof.Rows
/-! ### dict of a list of pairs: the loop, the call -/
theorem entry_updLoop : entryFor table "dict.update.loop" = some Builtin.«dict.update.loop» := entryFor_of_fast (by kernel_rfl)
theorem plain_updLoop : plainId "dict.update.loop" = true := by decide +kernel
/-- a pair in the list: its tuple, its key, the key's tuple, its value -/
structure Pr where
  t : Addr
  k : List Key
  b : Addr
  v : V
def Pr.At (H : Hp) (p : Pr) : Prop := H p.t = some (.tup [.ref p.b, p.v]) ∧ H p.b = some (.tup (p.k.map kV))
def putAll (kvs : List (List Key × V)) (ps : List Pr) : List (List Key × V) := ps.foldl (fun acc p => putK acc p.k p.v) kvs
section
variable {X : Cx} {pins : List (Addr × Obj)} {σ : St} {H : Hp}
theorem updLoop {A : Around} {E : Value → Shared → Prop} {R : Result → Shared → Prop} {d it l : Addr} {ps : List Pr} (hh : A.handled = none) (hu : A.units + 1 < cLine) (hl : H l = some (.lst (ps.map fun p => V.ref p.t))) (hp : ∀ p ∈ ps, p.At H) (hd : H d = none) (hit : H it = none) (hdi : d ≠ it) :
    ∀ (n i : Nat) (s : Shared) (kvs : List (List Key × V)), ps.length - i = n → i ≤ ps.length → kvs.length + n ≤ sizeLine → Inv X pins σ (upd H d (.dT kvs)) s → FpOk X pins (upd H d (.dT kvs)) it → s.heap.IsListIter it l i →
      (∀ s', Inv X pins σ (upd H d (.dT (putAll kvs (ps.drop i)))) s' → R (.ok (.ret .none)) s') →
      codeAny (model X.prog X.w) A (.builtin "dict.update.loop" ⟨[.ref d, .ref it, rawInt i, .none], []⟩) R s := by
  intro n
  induction n with
  | zero =>
    intro i s kvs hn hi hz I fp st k
    have e : i = ps.length := by omega
    refine codeAny_builtin entry_updLoop ?_
    rw [Around.under_plainId plain_updLoop _]
    have hl' : (upd H d (.dT kvs)) l = some (.lst (ps.map fun p => V.ref p.t)) := (Same.new hd) _ _ hl
    obtain ⟨z, its, m, r, len, el⟩ := I.lstM hl'
    refine (show wpAny _ A.in1 (pyNext (.ref it) >>= _) _ _ s from wpAny_bind (wpAny_pyNext_list_end (show A.in1.handled = none from hh) st ⟨_, el, rfl, _, rfl⟩ (by rw [List.length_map] at len; simp; omega) fun g eb => ?_))
    have I1 := I.turned (t' := s.toks) (h' := g) (fun b o hb e => eb b o hb e) fp.1 fp.2.1 fp.2.2.2.1 fp.2.2.2.2.1 fp.2.2.2.2.2
    rw [e, List.drop_length] at k
    exact wpAny_bind (wpAny_pure (wpAny_pure (k _ I1)))
  | succ n ih =>
    intro i s kvs hn hi hz I fp st k
    have lt : i < ps.length := by omega
    have ei : ps[i]? = some ps[i] := List.getElem?_eq_getElem lt
    obtain ⟨ht, hb⟩ := hp ps[i] (List.getElem_mem lt)
    refine codeAny_builtin entry_updLoop ?_
    rw [Around.under_plainId plain_updLoop _]
    have hl' : (upd H d (.dT kvs)) l = some (.lst (ps.map fun p => V.ref p.t)) := (Same.new hd) _ _ hl
    have ht' : (upd H d (.dT kvs)) ps[i].t = some (.tup [.ref ps[i].b, ps[i].v]) := (Same.new hd) _ _ ht
    have hb' : (upd H d (.dT kvs)) ps[i].b = some (.tup (ps[i].k.map kV)) := (Same.new hd) _ _ hb
    obtain ⟨z, its, m, r, len, el⟩ := I.lstM hl'
    obtain ⟨u, eu, ru⟩ := r.get (i := i) (x := V.ref ps[i].t) (by rw [List.getElem?_map, ei]; rfl)
    obtain rfl : u = Value.ref ps[i].t := ru
    refine (show wpAny _ A.in1 (pyNext (.ref it) >>= _) _ _ s from wpAny_bind (wpAny_pyNext_list_item st ⟨_, el, rfl, _, rfl⟩ (x := Value.ref ps[i].t) (by simpa using eu) fun g st' sb => ?_))
    have I1 : Inv X pins σ (upd H d (.dT kvs)) { s with heap := g } := I.turned (t' := s.toks) (fun b o hb e => sb.extBut b o hb e) fp.1 fp.2.1 fp.2.2.2.1 fp.2.2.2.2.1 fp.2.2.2.2.2
    obtain ⟨_, prs, rp, ot, eo, co, nt, dt⟩ := (show ObjOk X.prog X.w _ g ps[i].t (.tup [.ref ps[i].b, ps[i].v]) from I1.hok _ _ ht')
    obtain ⟨u1, u2, rfl, r1, r2⟩ := vals2 rp
    obtain rfl : u1 = Value.ref ps[i].b := r1
    refine wpAny_bind (wpAny_holding (wpAny_bind (wpAny_tryCatch ?_)))
    unfold Builtin.Dict.pairItems
    refine wpAny_bind (wpAny_typeOf (T := "tuple") ⟨ot, eo, co⟩ ?_)
    rw [if_pos (by decide)]
    refine wpAny_bind (wpAny_seqItems eo dt (wpAny_pure ?_))
    obtain ⟨zz, hd2, xs, rel, dd⟩ := dt_of I1.hok (show (upd H d (.dT kvs)) d = some (.dT kvs) from upd_same)
    have xl : xs.length = kvs.length := (Paired.length rel).symm
    refine wpAny_holding (wpAny_dictSet_heap (knd := tupleKind (mixKind X.prog X.w)) (hsz := by rw [xl]; omega) (tupleKind_room_in1 hu) (key_of I1.hok hb') dd fun g2 dd2 sb2 => ?_)
    have hl2 : (putK kvs ps[i].k ps[i].v).length ≤ sizeLine := by have := length_putK kvs ps[i].k ps[i].v; omega
    obtain ⟨qo, es, ep, hq, h2, h3, h4, _, h5⟩ := dd2
    have I2 := d_write (ob := .dT (putK kvs ps[i].k ps[i].v)) (t' := s.toks + (tupleKind (mixKind X.prog X.w)).draws ps[i].k) I1 (by rw [upd_same]; exact True.intro) sb2 ⟨qo, hq⟩ ⟨hl2, hd2, _, KT.keeps (KT.put rel ps[i].k hb' r2) (fun c ys ec => by
      rw [upd_ne (ne_of ec (show (upd H d (.dT kvs)) d = some (.dT kvs) from upd_same) (fun z => nomatch z))]; exact ec), qo, es, ep, hq, h2, h3, h4, h5⟩
    rw [upd_upd] at I2
    have fp2 : FpOk X pins (upd H d (.dT (putK kvs ps[i].k ps[i].v))) it := ⟨by rw [upd_ne (Ne.symm hdi)]; exact hit, fp.2⟩
    refine wpAny_pure ⟨plainId_quiet plain_updLoop _, ?_⟩
    have st2 : g2.IsListIter it l (i + 1) := st'.extBut sb2.extBut (Ne.symm hdi)
    refine ih (i + 1) _ (putK kvs ps[i].k ps[i].v) (by omega) lt ?_ I2 fp2 st2 fun s' I' => k s' ?_
    · have := length_putK kvs ps[i].k ps[i].v; omega
    · rw [List.drop_eq_getElem_cons lt]
      exact I'
theorem call_dictPrs (hc : X.calm = true) (hu : X.A.units + 64 < cLine) : CallR X (.type "dict") (fun xs H Q => ∃ (l : Addr) (ps : List Pr), xs = [.ref l] ∧ H l = some (.lst (ps.map fun p => V.ref p.t)) ∧ (∀ p ∈ ps, p.At H) ∧ ps.length ≤ 1000 ∧ ∀ d, H d = none → Q (.ref d) (upd H d (.dT (putAll [] ps)))) := by
  intro pins s σ H xs us Q I r h
  obtain ⟨l, ps, rfl, hl, hp, hz, q⟩ := h
  obtain ⟨u, rfl, rx⟩ := vals1 r
  cases rx
  have nd : H s.heap.objs.size = none := I.fresh
  have I1 : Inv X pins σ (upd H s.heap.objs.size (.dT [])) { s with heap := s.heap.push { cls := .type "dict", data := .dict #[] } } := I.laid (t' := s.toks) (fun b o e => Heap.get?_push_of_some _ e) (Nat.le_refl _) (dt_empty _ I.big)
  obtain ⟨_, its, m, rv, len, el⟩ := I1.lstM ((Same.new nd) _ _ hl)
  have ty : Shared.TypeIs { s with heap := s.heap.push { cls := .type "dict", data := .dict #[] } } (.ref s.heap.objs.size) "dict" := ⟨_, Heap.get?_push_size _ rfl, rfl⟩
  refine callType_codes (Q₁ := fun obj s₁ => obj = .ref s.heap.objs.size ∧ s₁ = { s with heap := s.heap.push { cls := .type "dict", data := .dict #[] } }) F.kt_called_dict (F.kt_typeCall_dict_1 _) F.entry_dict_init (kt_code_dict_new _ ⟨rfl, rfl⟩) ?_
  rintro obj s₁ ⟨rfl, rfl⟩
  refine ⟨ty, F.args_dict_init_2 _ _, ?_⟩
  unfold Builtin.«dict.__init__» Builtin.Dict.selfAndRest
  refine wpAny_bind (wpAny_bind (wpAny_notOrdered_dict ty (wpAny_pure ?_)))
  refine (show wpAny _ _ (Builtin.Dict.updateFrom "dict.__init__" s.heap.objs.size (.ref l) [] .none) _ _ _ from ?_)
  unfold Builtin.Dict.updateFrom
  refine wpAny_bind (wpAny_typeOf (T := "list") ⟨_, el, rfl⟩ ?_)
  rw [if_pos (by decide)]
  refine wpAny_bind (keysNone (show X.A.in1.in1.handled = none from I.ok.hd hc) el fun g tk kp => ?_)
  have I2 : Inv X pins σ (upd H s.heap.objs.size (.dT [])) { s with heap := g, toks := tk } := I1.kept kp
  have el2 := kp _ _ el
  rw [if_pos (by rfl)]
  refine wpAny_bind (wpAny_rule (wpAny_bind (wpAny_pyIter_list (s := { s with heap := g, toks := tk }) ⟨_, el2, rfl, _, rfl⟩ ?_)))
  have nit : (upd H s.heap.objs.size (.dT [])) g.objs.size = none := I2.hok.fresh (Nat.le_refl _)
  have hne : s.heap.objs.size ≠ g.objs.size := fun z => by rw [← z, upd_same] at nit; cases nit
  have I3 := I2.kept (t' := tk) (h' := g.push { cls := .type "list_iterator", data := .fields #[.ref l, .int 0 0] }) fun b o e => Heap.get?_push_of_some _ e
  refine wpAny_pure ⟨plainId_quiet plain_updLoop _, ?_⟩
  refine updLoop (E := X.xe) (H := H) (ps := ps) (l := l) (show X.A.in1.handled = none from I.ok.hd hc) (show X.A.units + 1 + 1 < cLine by omega) hl hp nd (by rw [upd_ne (Ne.symm hne)] at nit; exact nit) hne ps.length 0 _ [] rfl (Nat.zero_le _) (Nat.le_of_lt (small1000 (by simpa using hz))) I3 (I2.fpOk (Nat.le_refl _) nit) ⟨_, Heap.get?_push_size _ rfl, rfl, rfl⟩ fun s' I' => ?_
  exact ⟨rfl, .ref s.heap.objs.size, _, I', rfl, q _ nd⟩
end
end L2

namespace L2
open PySem PySem.Spec PyProof.Rows
/-! ### (x,) * n -/
theorem noMulT : fillsNumberSlot (.type "tuple") "mul" = pure false := by first | (rw [fillsNumberSlot_type]; kernel_rfl) | (unfold fillsNumberSlot; kernel_rfl) | kernel_rfl
theorem repT : seqRepeat? (.type "tuple") = pure (some (.builtin "tuple.__mul__")) := by first | (unfold seqRepeat?; kernel_rfl) | kernel_rfl
theorem rmulT (a : Int) (t : Tok) (l : Addr) (its : Array Value) (n : Nat) (sl : Array (Option Value)) (dd : Option Addr) :
    Meets (Builtin.«int.__rmul__» ⟨[.int a t, .ref l], []⟩) (fun _ R s => s.heap.get? l = some { cls := .type "tuple", dict := dd, data := .seq its n, slots := sl } ∧ R (.ok (.ret .notImplemented)) s) :=
  .of_wp fun prog w A R s h => by
    obtain ⟨hp, g, d, tk, os⟩ := s; obtain ⟨hl, h⟩ := h
    wp_walk
    exact ⟨_, rfl, h⟩
theorem mulT1 (l : Addr) (its : Array Value) (n : Nat) (u : Tok) (sl : Array (Option Value)) (dd : Option Addr) (hne : its.isEmpty = false) :
    Meets (Builtin.«tuple.__mul__» ⟨[.ref l, .int 1 u], []⟩) (fun _ R s => s.heap.get? l = some { cls := .type "tuple", dict := dd, data := .seq its n, slots := sl } ∧ R (.ok (.ret (.ref l))) s) :=
  .of_wp fun prog w A R s h => by
    obtain ⟨hp, g, d, tk, os⟩ := s; obtain ⟨hl, h⟩ := h
    have f1 := AutoSeq1.idx_int
    wp_walk using wpAny_loadPart' hl
    exact ⟨_, rfl, h⟩
theorem mulTn (l : Addr) (its : Array Value) (n : Nat) (x : Int) (u : Tok) (sl : Array (Option Value)) (dd : Option Addr) (hne : its.isEmpty = false) (h0 : (decide (x < -(2 ^ 63)) || decide (x ≥ 2 ^ 63)) = false) (h1 : (x == 1) = false) (h2 : decide (x ≤ 0) = false)
    (h3 : ¬ (its.size : Int) * x > (2 ^ 63 - 1) / 8) (h4 : Builtin.Tuple.tupleTooMany ((its.size : Int) * x) = false) (h5 : (List.foldl (fun x1 x2 => x1 ++ x2) #[] (List.replicate x.toNat its)).size ≤ sizeLine) :
    Meets (Builtin.«tuple.__mul__» ⟨[.ref l, .int x u], []⟩) (fun _ R s => s.heap.get? l = some { cls := .type "tuple", dict := dd, data := .seq its n, slots := sl } ∧ R (.ok (.ret (.ref s.heap.objs.size))) { s with heap := s.heap.push { cls := .type "tuple", data := .seq (List.foldl (fun x1 x2 => x1 ++ x2) #[] (List.replicate x.toNat its)) } }) :=
  .of_wp fun prog w A R s h => by
    obtain ⟨hp, g, d, tk, os⟩ := s; obtain ⟨hl, h⟩ := h
    have f1 := AutoSeq1.idx_int
    wp_walk using wpAny_loadPart' hl
    refine wpAny_ite_false (decide_eq_false (by rw [h0]; exact Bool.false_ne_true)) ?_
    wp_walk using wpAny_loadPart' hl
    refine wpAny_ite_false (decide_eq_false h3) ?_
    wp_walk using wpAny_loadPart' hl
    exact ⟨_, rfl, h⟩
/-- (x,) * k, 1 ≤ k -/
def rRepT : R2 := fun x y H Q => ∃ (l : Addr) (v : V) (k : Nat), x = .ref l ∧ y = vN k ∧ H l = some (.tup [v]) ∧ 1 ≤ k ∧ k ≤ 1000 ∧ (k = 1 → Q (.ref l) H) ∧ (2 ≤ k → ∀ p, H p = none → Q (.ref p) (upd H p (.tup (List.replicate k v))))
theorem foldl_one (u : Value) : ∀ (k : Nat), List.foldl (fun x1 x2 => x1 ++ x2) #[] (List.replicate k #[u]) = (List.replicate k u).toArray := fun k => by
  have h := foldl_rep [u] k []
  rw [List.nil_append] at h
  refine h.trans ?_
  congr 1
  induction k with
  | zero => rfl
  | succ k ih => rw [List.replicate_succ, List.flatten_cons, ih (by
      have h := foldl_rep [u] k []
      rw [List.nil_append] at h
      exact h), List.replicate_succ]; rfl
theorem vals_rep {v : V} {u : Value} (r : RelV v u) : ∀ k : Nat, Vals (List.replicate k v) (List.replicate k u)
  | 0 => .nil
  | k + 1 => by rw [List.replicate_succ, List.replicate_succ]; exact .cons r (vals_rep r k)
theorem op_repTI {X : Cx} (i : Int) : OpR X (binaryOp .Mult) (fun x y H Q => ∃ (l : Addr) (v : V), x = .ref l ∧ y = .int i ∧ H l = some (.tup [v]) ∧ 1 ≤ i ∧ i ≤ 1000 ∧ (i = 1 → Q (.ref l) H) ∧ (2 ≤ i → ∀ p, H p = none → Q (.ref p) (upd H p (.tup (List.replicate i.toNat v))))) := by
  intro pins s σ H x y v u Q I rx ry h
  obtain ⟨l, w, rfl, rfl, hH, h1, h2, q1, q2⟩ := h
  cases rx
  obtain ⟨t, rfl⟩ := ry
  obtain ⟨_, its, rv, ⟨cls, dd, data, sl⟩, e, hc, n, hd⟩ := (show ObjOk X.prog X.w H s.heap l (.tup [w]) from I.hok l _ hH)
  simp only at hc hd
  subst hc hd
  obtain ⟨c, rfl, rc⟩ := vals1 rv
  refine wpAny_binaryOp_repeat_ref (T := "tuple") (U := "int") (by decide) ⟨_, e, rfl⟩ (fun s' => typeIs_int s' i t) noMulT F.fills_int_mul F.slot_int_rmul repT F.slot_int_index.lookup
    (call_meets F.slot_int_rmul (typeIs_int s i t) F.entry_int_rmul (F.args_int_rmul_2 _ _) (rmulT i t l [c].toArray n sl dd) ⟨e, rfl, ⟨_, e, rfl⟩, ?_⟩)
  by_cases hi : i = 1
  · subst hi
    exact call_meets F.slot_tuple_mul ⟨_, e, rfl⟩ F.entry_tuple_mul (F.args_tuple_mul_2 _ _) (mulT1 l [c].toArray n t sl dd rfl) ⟨e, ⟨.ref l, H, I, rfl, q1 rfl⟩⟩
  · have hf := foldl_one c i.toNat
    have hsz : (1000 : Nat) ≤ sizeLine := by rw [sizeLine_eq]; decide
    refine call_meets F.slot_tuple_mul ⟨_, e, rfl⟩ F.entry_tuple_mul (F.args_tuple_mul_2 _ _) (mulTn l [c].toArray n i t sl dd rfl (by rw [Bool.or_eq_false_iff, decide_eq_false_iff_not, decide_eq_false_iff_not]; omega) (by rw [beq_eq_false_iff_ne]; exact hi) (by rw [decide_eq_false_iff_not]; omega)
      (by rw [List.size_toArray]; show ¬ ((1 : Nat) : Int) * i > _; omega) (by unfold Builtin.Tuple.tupleTooMany; rw [decide_eq_false_iff_not, List.size_toArray]; show ¬ ((1 : Nat) : Int) * i > _; omega) (by rw [show ([c].toArray : Array Value) = #[c] from rfl, hf, List.size_toArray, List.length_replicate]; omega)) ⟨e, ?_⟩
    rw [show ([c].toArray : Array Value) = #[c] from rfl, hf]
    refine ⟨.ref s.heap.objs.size, _, I.laid (t' := s.toks) (fun b o eb => Heap.get?_push_of_some _ eb) (Nat.le_refl _) (show ObjOk X.prog X.w _ _ _ (.tup (List.replicate i.toNat w)) from ⟨by rw [List.length_replicate]; omega, _, vals_rep rc i.toNat, ⟨_, Heap.get?_push_size _ rfl, rfl, _, rfl⟩⟩), rfl, q2 (by omega) _ I.fresh⟩
theorem op_repT {X : Cx} : OpR X (binaryOp .Mult) rRepT := fun pins s σ H x y v u Q I rx ry ⟨l, w, k, h1, h2, h3, h4, h5, q1, q2⟩ =>
  op_repTI (k : Int) pins s σ H x y v u Q I rx ry ⟨l, w, h1, h2, h3, by omega, by omega, fun e => q1 (by omega), fun e p hp => by
    have := q2 (by omega) p hp
    rw [Int.toNat_natCast]
    exact this⟩
end L2

namespace L2
open PySem PySem.Spec PyProof.Rows
/-! ### books: rows with their places, groups of rows -/
abbrev RW := Addr × List Int
def seenL (r : List Int) (s : Nat) : List Int := mixL r (List.replicate r.length 0) s
def tks (r : List Int) : List Key := r.map Sum.inl
theorem tks_kV (r : List Int) : (tks r).map kV = r.map V.int := by unfold tks; rw [List.map_map]; rfl
theorem tks_inj : ∀ {a b : List Int}, tks a = tks b → a = b
  | [], [], _ => rfl
  | [], _ :: _, h => by cases h
  | _ :: _, [], h => by cases h
  | x :: a, y :: b, h => by
    have h1 : (Sum.inl x : Key) = Sum.inl y := (List.cons.inj h).1
    have h2 : tks a = tks b := (List.cons.inj h).2
    rw [Sum.inl.inj h1, tks_inj h2]
/-- a group: its key, its list's place, its rows -/
structure Gr where
  key : List Int
  at_ : Addr
  rows : List RW
def kvsOf (G : List Gr) : List (List Key × V) := G.map fun g => (tks g.key, V.ref g.at_)
def refsOf (rs : List RW) : List V := rs.map fun rw => V.ref rw.1
structure GroupsAt (H : Hp) (d : Addr) (G : List Gr) : Prop where
  dict : H d = some (.dT (kvsOf G))
  lists : ∀ g ∈ G, H g.at_ = some (.lst (refsOf g.rows))
  keys : (G.map (·.key)).Nodup
  ats : (G.map (·.at_)).Nodup
def addG (gs : List (List Int × List RW)) (key : List Int) (rw : RW) : List (List Int × List RW) :=
  if gs.any (fun g => decide (g.1 = key)) = true then gs.map (fun g => if g.1 = key then (g.1, g.2 ++ [rw]) else g) else gs ++ [(key, [rw])]
def groupsL (rws : List RW) (s : Nat) : List (List Int × List RW) := rws.foldl (fun gs rw => addG gs (seenL rw.2 s) rw) []
def forget (G : List Gr) : List (List Int × List RW) := G.map fun g => (g.key, g.rows)
theorem groupsL_snoc (rws : List RW) (rw : RW) (s : Nat) : groupsL (rws ++ [rw]) s = addG (groupsL rws s) (seenL rw.2 s) rw := by
  unfold groupsL; rw [List.foldl_append]; rfl
theorem valV_G {key : List Int} : ∀ G : List Gr, valV (kvsOf G) (tks key) = (G.find? fun g => decide (g.key = key)).map fun g => V.ref g.at_
  | [] => rfl
  | g :: G => by
    by_cases h : g.key = key
    · rw [show kvsOf (g :: G) = (tks g.key, V.ref g.at_) :: kvsOf G from rfl, valV_pos (by show tks g.key = _; rw [h]), List.find?_cons, decide_eq_true h]
      rfl
    · rw [show kvsOf (g :: G) = (tks g.key, V.ref g.at_) :: kvsOf G from rfl, valV_neg (fun e => h (tks_inj e)), List.find?_cons, decide_eq_false h, valV_G G]
def updG (G : List Gr) (key : List Int) (rw : RW) : List Gr := G.map fun g => if g.key = key then { g with rows := g.rows ++ [rw] } else g
theorem updG_keys (G : List Gr) (key : List Int) (rw : RW) : (updG G key rw).map (·.key) = G.map (·.key) := by
  unfold updG; rw [List.map_map]
  refine List.map_congr_left fun g _ => ?_
  show (if g.key = key then _ else g).key = g.key
  split <;> rfl
theorem updG_ats (G : List Gr) (key : List Int) (rw : RW) : (updG G key rw).map (·.at_) = G.map (·.at_) := by
  unfold updG; rw [List.map_map]
  refine List.map_congr_left fun g _ => ?_
  show (if g.key = key then _ else g).at_ = g.at_
  split <;> rfl
theorem updG_kvs (G : List Gr) (key : List Int) (rw : RW) : kvsOf (updG G key rw) = kvsOf G := by
  unfold kvsOf updG; rw [List.map_map]
  refine List.map_congr_left fun g _ => ?_
  show (tks (if g.key = key then _ else g).key, V.ref (if g.key = key then _ else g).at_) = _
  split <;> rfl
theorem any_forget (G : List Gr) (key : List Int) : ((forget G).any fun g => decide (g.1 = key)) = (G.find? fun g => decide (g.key = key)).isSome := by
  unfold forget
  rw [Bool.eq_iff_iff, List.any_eq_true, List.find?_isSome]
  constructor
  · rintro ⟨x, hx, e⟩
    obtain ⟨g, hg, rfl⟩ := List.mem_map.mp hx
    exact ⟨g, hg, e⟩
  · rintro ⟨g, hg, e⟩
    exact ⟨(g.key, g.rows), List.mem_map.mpr ⟨g, hg, rfl⟩, e⟩
theorem forget_upd {G : List Gr} {key : List Int} {rw : RW} (h : (G.find? fun g => decide (g.key = key)).isSome = true) : forget (updG G key rw) = addG (forget G) key rw := by
  unfold addG
  rw [if_pos (by rw [any_forget]; exact h)]
  unfold forget updG
  rw [List.map_map, List.map_map]
  refine List.map_congr_left fun g _ => ?_
  show ((if g.key = key then _ else g : Gr).key, (if g.key = key then _ else g : Gr).rows) = if g.key = key then _ else _
  split <;> rfl
theorem forget_new {G : List Gr} {key : List Int} {rw : RW} {l : Addr} (h : (G.find? fun g => decide (g.key = key)) = none) : forget (G ++ [⟨key, l, [rw]⟩]) = addG (forget G) key rw := by
  unfold addG
  rw [if_neg (by rw [any_forget, h]; exact Bool.false_ne_true)]
  unfold forget
  rw [List.map_append]
  rfl
theorem find_none_key {G : List Gr} {key : List Int} (h : (G.find? fun g => decide (g.key = key)) = none) : key ∉ G.map (·.key) := fun hm => by
  obtain ⟨g, hg, e⟩ := List.mem_map.mp hm
  have := List.find?_eq_none.mp h g hg
  exact this (decide_eq_true e)
/-- a row goes into a group that is there -/
theorem GroupsAt.old {H : Hp} {d : Addr} {G : List Gr} {key : List Int} {rw : RW} {g : Gr} (A : GroupsAt H d G) (h : (G.find? fun g => decide (g.key = key)) = some g) : g ∈ G ∧ g.key = key ∧ GroupsAt (upd H g.at_ (.lst (refsOf g.rows ++ [V.ref rw.1]))) d (updG G key rw) := by
  have hm := List.mem_of_find?_eq_some h
  have hk : g.key = key := by
    have h1 := List.find?_some (p := fun g : Gr => decide (g.key = key)) h
    exact of_decide_eq_true h1
  have hl := A.lists g hm
  have ne : g.at_ ≠ d := ne_of hl A.dict (fun z => nomatch z)
  refine ⟨hm, hk, ⟨by rw [updG_kvs, upd_ne (Ne.symm ne)]; exact A.dict, fun g' hg' => ?_, by rw [updG_keys]; exact A.keys, by rw [updG_ats]; exact A.ats⟩⟩
  obtain ⟨g0, h0, rfl⟩ := List.mem_map.mp hg'
  have uniq : ∀ g1 ∈ G, ∀ g2 ∈ G, g1.at_ = g2.at_ → g1 = g2 := by
    have : ∀ (L : List Gr), (L.map (·.at_)).Nodup → ∀ g1 ∈ L, ∀ g2 ∈ L, g1.at_ = g2.at_ → g1 = g2 := by
      intro L
      induction L with
      | nil => intro _ g1 h1; cases h1
      | cons x L ih =>
        intro hn g1 h1 g2 h2 e
        rw [List.map_cons, List.nodup_cons] at hn
        rcases List.mem_cons.mp h1 with rfl | k1 <;> rcases List.mem_cons.mp h2 with rfl | k2
        · rfl
        · exact absurd (List.mem_map.mpr ⟨g2, k2, e.symm⟩) hn.1
        · exact absurd (List.mem_map.mpr ⟨g1, k1, e⟩) hn.1
        · exact ih hn.2 g1 k1 g2 k2 e
    exact this G A.ats
  have uniqk : ∀ g1 ∈ G, g1.key = key → g1 = g := by
    have : ∀ (L : List Gr), (L.map (·.key)).Nodup → ∀ g1 ∈ L, ∀ g2 ∈ L, g1.key = g2.key → g1 = g2 := by
      intro L
      induction L with
      | nil => intro _ g1 h1; cases h1
      | cons x L ih =>
        intro hn g1 h1 g2 h2 e
        rw [List.map_cons, List.nodup_cons] at hn
        rcases List.mem_cons.mp h1 with rfl | k1 <;> rcases List.mem_cons.mp h2 with rfl | k2
        · rfl
        · exact absurd (List.mem_map.mpr ⟨g2, k2, e.symm⟩) hn.1
        · exact absurd (List.mem_map.mpr ⟨g1, k1, e⟩) hn.1
        · exact ih hn.2 g1 k1 g2 k2 e
    exact fun g1 h1 e => this G A.keys g1 h1 g hm (e.trans hk.symm)
  by_cases e : g0.key = key
  · obtain rfl := uniqk g0 h0 e
    rw [if_pos e]
    show upd H g0.at_ _ g0.at_ = some (.lst (refsOf (g0.rows ++ [rw])))
    rw [upd_same]
    unfold refsOf
    rw [List.map_append]
    rfl
  · rw [if_neg e, upd_ne]
    · exact A.lists g0 h0
    · intro z
      exact e ((uniq g0 h0 g hm z) ▸ hk)
/-- a new group -/
theorem GroupsAt.snoc {H : Hp} {d l : Addr} {G : List Gr} {key : List Int} {rw : RW} (A : GroupsAt H d G) (h : (G.find? fun g => decide (g.key = key)) = none) (hl : H l = some (.lst [])) (hn : ∀ g ∈ G, g.at_ ≠ l) :
    GroupsAt (upd (upd H d (.dT (putK (kvsOf G) (tks key) (V.ref l)))) l (.lst ([] ++ [V.ref rw.1]))) d (G ++ [⟨key, l, [rw]⟩]) := by
  have ne : l ≠ d := ne_of hl A.dict (fun z => nomatch z)
  have hv : valV (kvsOf G) (tks key) = none := by rw [valV_G, h]; rfl
  refine ⟨?_, fun g hg => ?_, ?_, ?_⟩
  · rw [upd_ne (Ne.symm ne), upd_same, putK_new _ hv]
    unfold kvsOf
    rw [List.map_append]
    rfl
  · rcases List.mem_append.mp hg with hg | hg
    · have hgl := A.lists g hg
      rw [upd_ne (hn g hg), upd_ne (ne_of hgl A.dict (fun z => nomatch z))]
      exact hgl
    · rw [List.mem_singleton.mp hg]
      exact upd_same
  · rw [List.map_append, List.nodup_append]
    refine ⟨A.keys, by simp, fun x hx y hy e => find_none_key h ?_⟩
    have hy' : y = key := by simpa using hy
    rw [← hy', ← e]; exact hx
  · rw [List.map_append, List.nodup_append]
    refine ⟨A.ats, by simp, fun x hx y hy e => ?_⟩
    have hy' : y = l := by simpa using hy
    obtain ⟨g, hg, rfl⟩ := List.mem_map.mp hx
    exact hn g hg (e.trans hy')
/-! ### what a group is -/
theorem addG_mem {gs : List (List Int × List RW)} {key : List Int} {rw : RW} (hn : (gs.map (·.1)).Nodup) : ∀ g ∈ addG gs key rw, (g ∈ gs ∧ g.1 ≠ key) ∨ (g.1 = key ∧ ((∃ rs, (key, rs) ∈ gs ∧ g.2 = rs ++ [rw]) ∨ ((∀ g' ∈ gs, g'.1 ≠ key) ∧ g.2 = [rw]))) := by
  intro g hg
  unfold addG at hg
  by_cases h : (gs.any fun g => decide (g.1 = key)) = true
  · rw [if_pos h] at hg
    obtain ⟨g0, h0, rfl⟩ := List.mem_map.mp hg
    by_cases e : g0.1 = key
    · rw [if_pos e]
      exact .inr ⟨e, .inl ⟨g0.2, by rw [← e]; exact h0, rfl⟩⟩
    · rw [if_neg e]
      exact .inl ⟨h0, e⟩
  · rw [if_neg h] at hg
    have all : ∀ g' ∈ gs, g'.1 ≠ key := fun g' h' e => h (List.any_eq_true.mpr ⟨g', h', decide_eq_true e⟩)
    rcases List.mem_append.mp hg with hg | hg
    · exact .inl ⟨hg, all g hg⟩
    · rw [List.mem_singleton.mp hg]
      exact .inr ⟨rfl, .inr ⟨all, rfl⟩⟩
theorem addG_keys {gs : List (List Int × List RW)} {key : List Int} {rw : RW} (hn : (gs.map (·.1)).Nodup) : ((addG gs key rw).map (·.1)).Nodup := by
  unfold addG
  by_cases h : (gs.any fun g => decide (g.1 = key)) = true
  · rw [if_pos h, List.map_map]
    have e : gs.map ((·.1) ∘ fun g => if g.1 = key then (g.1, g.2 ++ [rw]) else g) = gs.map (·.1) := List.map_congr_left fun g _ => by
      show (if g.1 = key then _ else g : List Int × List RW).1 = g.1
      split <;> rfl
    rw [e]; exact hn
  · rw [if_neg h, List.map_append, List.nodup_append]
    refine ⟨hn, by simp, fun x hx y hy e => h ?_⟩
    have hy' : y = key := by simpa using hy
    obtain ⟨g, hg, rfl⟩ := List.mem_map.mp hx
    exact List.any_eq_true.mpr ⟨g, hg, decide_eq_true (e.trans hy')⟩
theorem snocInd {α : Type} {P : List α → Prop} (h0 : P []) (hs : ∀ l x, P l → P (l ++ [x])) (l : List α) : P l := by
  have : ∀ m : List α, P m.reverse := by
    intro m
    induction m with
    | nil => exact h0
    | cons x m ih => rw [List.reverse_cons]; exact hs _ _ ih
  rw [← List.reverse_reverse l]
  exact this _
/-- the groups of a book: each holds just the rows that are seen as its key, none is empty, each row stands in one -/
theorem groups_spec (s : Nat) (rws : List RW) : ((groupsL rws s).map (·.1)).Nodup ∧ (∀ g ∈ groupsL rws s, g.2 ≠ [] ∧ ∀ rw, rw ∈ g.2 ↔ rw ∈ rws ∧ seenL rw.2 s = g.1) ∧ ∀ rw ∈ rws, ∃ g ∈ groupsL rws s, g.1 = seenL rw.2 s := by
  refine snocInd (P := fun rws => ((groupsL rws s).map (·.1)).Nodup ∧ (∀ g ∈ groupsL rws s, g.2 ≠ [] ∧ ∀ rw, rw ∈ g.2 ↔ rw ∈ rws ∧ seenL rw.2 s = g.1) ∧ ∀ rw ∈ rws, ∃ g ∈ groupsL rws s, g.1 = seenL rw.2 s) ?_ ?_ rws
  · exact ⟨List.nodup_nil, fun g hg => absurd hg List.not_mem_nil, fun rw h => absurd h List.not_mem_nil⟩
  · intro rws x ih
    obtain ⟨hn, hg, hc⟩ := ih
    rw [groupsL_snoc]
    refine ⟨addG_keys hn, fun g hm => ?_, fun rw hr => ?_⟩
    · rcases addG_mem hn g hm with ⟨h1, h2⟩ | ⟨h1, ⟨rs, h2, h3⟩ | ⟨h2, h3⟩⟩
      · refine ⟨(hg g h1).1, fun rw => ?_⟩
        rw [(hg g h1).2 rw, List.mem_append, List.mem_singleton]
        exact ⟨fun ⟨a, b⟩ => ⟨.inl a, b⟩, fun ⟨a, b⟩ => ⟨a.resolve_right fun e => h2 (by rw [← b, e]), b⟩⟩
      · refine ⟨by rw [h3]; simp, fun rw => ?_⟩
        rw [h3, List.mem_append, List.mem_singleton, (hg _ h2).2 rw, List.mem_append, List.mem_singleton, h1]
        constructor
        · rintro (⟨a, b⟩ | rfl)
          · exact ⟨.inl a, b⟩
          · exact ⟨.inr rfl, rfl⟩
        · rintro ⟨a | a, b⟩
          · exact .inl ⟨a, b⟩
          · exact .inr a
      · refine ⟨by rw [h3]; simp, fun rw => ?_⟩
        rw [h3, List.mem_singleton, List.mem_append, List.mem_singleton, h1]
        constructor
        · rintro rfl; exact ⟨.inr rfl, rfl⟩
        · rintro ⟨a | a, b⟩
          · obtain ⟨g', hg', e'⟩ := hc rw a
            exact absurd (e'.trans b) (h2 g' hg')
          · exact a
    · have mem : ∀ key, (∃ g ∈ groupsL rws s, g.1 = key) ∨ key = seenL x.2 s → ∃ g ∈ addG (groupsL rws s) (seenL x.2 s) x, g.1 = key := by
        intro key h
        unfold addG
        by_cases hany : ((groupsL rws s).any fun g => decide (g.1 = seenL x.2 s)) = true
        · rw [if_pos hany]
          have h' : ∃ g ∈ groupsL rws s, g.1 = key := by
            rcases h with h | h
            · exact h
            · obtain ⟨g, hg1, hg2⟩ := List.any_eq_true.mp hany
              exact ⟨g, hg1, (of_decide_eq_true hg2).trans h.symm⟩
          obtain ⟨g, hg1, hg2⟩ := h'
          refine ⟨_, List.mem_map.mpr ⟨g, hg1, rfl⟩, ?_⟩
          split <;> exact hg2
        · rw [if_neg hany]
          rcases h with ⟨g, hg1, hg2⟩ | h
          · exact ⟨g, List.mem_append_left _ hg1, hg2⟩
          · exact ⟨(seenL x.2 s, [x]), List.mem_append_right _ (List.mem_singleton.mpr rfl), h.symm⟩
      rcases List.mem_append.mp hr with hr | hr
      · exact mem _ (.inl (hc rw hr))
      · rw [List.mem_singleton.mp hr]
        exact mem _ (.inr rfl)
end L2

namespace L2
open PySem PySem.Spec PyProof.Rows
/-! ### the promises of the program's own defs about books -/
theorem GroupsAt.same {H H' : Hp} {d : Addr} {G : List Gr} (A : GroupsAt H d G) (e : Same H H') : GroupsAt H' d G := ⟨e _ _ A.dict, fun g hg => e _ _ (A.lists g hg), A.keys, A.ats⟩
def RowsOk (H : Hp) (m : Nat) (rws : List RW) : Prop := ∀ rw ∈ rws, H rw.1 = some (.tup (rw.2.map V.int)) ∧ rw.2.length = m
theorem RowsOk.same {H H' : Hp} {m : Nat} {rws : List RW} (r : RowsOk H m rws) (e : Same H H') : RowsOk H' m rws := fun rw h => ⟨e _ _ (r rw h).1, (r rw h).2⟩
def spNoughts : Sp := fun vs H Q _ => ∃ m : Nat, vs = [vN m] ∧ 1 ≤ m ∧ m ≤ 20 ∧ ∀ p H', Same H H' → H p = none → H' p = some (.tup ((List.replicate m (0 : Int)).map V.int)) → Q (.ref p) H'
def spSeen : Sp := fun vs H Q _ => ∃ (a : Addr) (r : List Int) (s : Nat), vs = [.ref a, vN s] ∧ H a = some (.tup (r.map V.int)) ∧ 1 ≤ r.length ∧ r.length ≤ 20 ∧ ∀ p H', Same H H' → H p = none → H' p = some (.tup ((seenL r s).map V.int)) → Q (.ref p) H'
def spGroups (K : PySem.W.Frag) : Sp := fun vs H Q _ => ∃ (bk : Addr) (rws : List RW) (s m : Nat), vs = [.ref bk, vN s] ∧ SqL K H bk (refsOf rws) ∧ RowsOk H m rws ∧ 1 ≤ m ∧ m ≤ 20 ∧ rws.length ≤ 300 ∧
  ∀ d G H', Same H H' → H d = none → GroupsAt H' d G → forget G = groupsL rws s → Q (.ref d) H'
def spFirsts (K : PySem.W.Frag) : Sp := fun vs H Q _ => ∃ (bk : Addr) (rws : List RW) (s m : Nat), vs = [.ref bk, vN s] ∧ SqL K H bk (refsOf rws) ∧ RowsOk H m rws ∧ 1 ≤ m ∧ m ≤ 20 ∧ rws.length ≤ 300 ∧
  ∀ p (fs : List RW) H', Same H H' → H p = none → H' p = some (.lst (refsOf fs)) → (∀ f ∈ fs, f ∈ rws) → (∀ rw ∈ rws, ∃ f ∈ fs, seenL f.2 s = seenL rw.2 s) → fs.length ≤ 300 → Q (.ref p) H'
theorem groups_len (s : Nat) (rws : List RW) : (groupsL rws s).length ≤ rws.length ∧ ∀ g ∈ groupsL rws s, g.2.length ≤ rws.length := by
  refine snocInd (P := fun rws => (groupsL rws s).length ≤ rws.length ∧ ∀ g ∈ groupsL rws s, g.2.length ≤ rws.length) ⟨Nat.le_refl _, fun g hg => absurd hg List.not_mem_nil⟩ ?_ rws
  intro rws x ih
  obtain ⟨h1, h2⟩ := ih
  rw [groupsL_snoc, List.length_append, List.length_singleton]
  refine ⟨?_, fun g hg => ?_⟩
  · unfold addG
    split
    · rw [List.length_map]; omega
    · rw [List.length_append, List.length_singleton]; omega
  · unfold addG at hg
    split at hg
    · obtain ⟨g0, h0, rfl⟩ := List.mem_map.mp hg
      have := h2 g0 h0
      split
      · rw [List.length_append, List.length_singleton]; omega
      · omega
    · rcases List.mem_append.mp hg with hg | hg
      · have := h2 g hg; omega
      · rw [List.mem_singleton.mp hg]
        show 1 ≤ rws.length + 1
        omega
theorem forget_len {G : List Gr} {gs : List (List Int × List RW)} (e : forget G = gs) : G.length = gs.length := by rw [← e]; unfold forget; rw [List.length_map]
theorem forget_mem {G : List Gr} {gs : List (List Int × List RW)} (e : forget G = gs) {g : Gr} (h : g ∈ G) : (g.key, g.rows) ∈ gs := by rw [← e]; exact List.mem_map.mpr ⟨g, h, rfl⟩
theorem mem_forget {G : List Gr} {gs : List (List Int × List RW)} (e : forget G = gs) {x : List Int × List RW} (h : x ∈ gs) : ∃ g ∈ G, g.key = x.1 ∧ g.rows = x.2 := by
  rw [← e] at h
  obtain ⟨g, hg, rfl⟩ := List.mem_map.mp h
  exact ⟨g, hg, rfl, rfl⟩
theorem kvs_at {G : List Gr} {i : Nat} {k : List Key} {x : V} (h : (kvsOf G)[i]? = some (k, x)) : ∃ g, G[i]? = some g ∧ x = V.ref g.at_ := by
  unfold kvsOf at h
  rw [List.getElem?_map] at h
  cases e : G[i]? with
  | none => rw [e] at h; cases h
  | some g =>
    rw [e] at h
    have := Option.some.inj h
    exact ⟨g, rfl, (congrArg Prod.snd this).symm⟩
end L2

namespace L2
open PySem PySem.Spec PyProof.Rows
/-! ### rows alike and mixed: the mathematics -/
theorem cols_rng : ∀ m, m < 8 → ∀ x, x < 2 ^ m → (List.range m).filter (hasB x) = colsN x := by decide +kernel
theorem has_rest : ∀ m, m < 8 → ∀ x, x < 2 ^ m → ∀ k, k < m → hasB (2 ^ m - 1 - x) k = !hasB x k := by decide +kernel
theorem mem_cols {m x k : Nat} (hm : m < 8) (hx : x < 2 ^ m) : k ∈ colsN x ↔ k < m ∧ hasB x k = true := by rw [← cols_rng m hm x hx, List.mem_filter, List.mem_range]
theorem alike_iff {r1 r2 : List Int} {x m : Nat} (hm : m < 8) (hx : x < 2 ^ m) : alikeL r1 r2 x = true ↔ ∀ k, k < m → hasB x k = true → r1.getD k 0 = r2.getD k 0 := by
  unfold alikeL
  rw [List.all_eq_true]
  constructor
  · intro h k hk hb
    exact of_decide_eq_true (h _ (List.mem_map.mpr ⟨k, (mem_cols hm hx).mpr ⟨hk, hb⟩, rfl⟩))
  · intro h b hb
    obtain ⟨k, hk, rfl⟩ := List.mem_map.mp hb
    obtain ⟨h1, h2⟩ := (mem_cols hm hx).mp hk
    exact decide_eq_true (h k h1 h2)
theorem mix_len (r1 r2 : List Int) (x : Nat) : (mixL r1 r2 x).length = r1.length := by unfold mixL; rw [List.length_map, List.length_range]
theorem mix_get {r1 r2 : List Int} {x k : Nat} (h : k < r1.length) : (mixL r1 r2 x).getD k 0 = if hasB x k = true then r1.getD k 0 else r2.getD k 0 := by
  unfold mixL
  rw [List.getD_eq_getElem?_getD, List.getElem?_map, List.getElem?_range h]
  rfl
theorem ext_getD {r1 r2 : List Int} (hl : r1.length = r2.length) (h : ∀ k, k < r1.length → r1.getD k 0 = r2.getD k 0) : r1 = r2 := by
  refine List.ext_getElem hl fun j j1 j2 => ?_
  have := h j j1
  rwa [List.getD_eq_getElem?_getD, List.getElem?_eq_getElem j1, List.getD_eq_getElem?_getD, List.getElem?_eq_getElem j2] at this
theorem getD_rep (m k : Nat) : (List.replicate m (0 : Int)).getD k 0 = 0 := by
  rw [List.getD_eq_getElem?_getD, List.getElem?_replicate]
  split <;> rfl
theorem seen_len (r : List Int) (s : Nat) : (seenL r s).length = r.length := mix_len _ _ _
theorem seen_get {r : List Int} {s k : Nat} (h : k < r.length) : (seenL r s).getD k 0 = if hasB s k = true then r.getD k 0 else 0 := by
  unfold seenL
  rw [mix_get h, getD_rep]
theorem seen_iff {r1 r2 : List Int} {s m : Nat} (h1 : r1.length = m) (h2 : r2.length = m) : seenL r1 s = seenL r2 s ↔ ∀ k, k < m → hasB s k = true → r1.getD k 0 = r2.getD k 0 := by
  constructor
  · intro h k hk hb
    have e := congrArg (fun l => l.getD k 0) h
    replace e : (seenL r1 s).getD k 0 = (seenL r2 s).getD k 0 := e
    rw [seen_get (by omega), seen_get (by omega), if_pos hb, if_pos hb] at e
    exact e
  · intro h
    refine ext_getD (by rw [seen_len, seen_len, h1, h2]) fun k hk => ?_
    rw [seen_len] at hk
    rw [seen_get (by omega), seen_get (by omega)]
    split
    · rename_i hb; exact h k (by omega) hb
    · rfl
theorem alike_seen {r1 r2 : List Int} {s m : Nat} (hm : m < 8) (hs : s < 2 ^ m) (h1 : r1.length = m) (h2 : r2.length = m) : alikeL r1 r2 s = true ↔ seenL r1 s = seenL r2 s := by
  rw [alike_iff hm hs, seen_iff h1 h2]
theorem mix_congr {a b c d : List Int} {s m : Nat} (hm : m < 8) (hs : s < 2 ^ m) (ha : a.length = m) (hb : b.length = m) (hc : c.length = m) (hd : d.length = m) (h1 : seenL a s = seenL c s) (h2 : seenL b (2 ^ m - 1 - s) = seenL d (2 ^ m - 1 - s)) : mixL a b s = mixL c d s := by
  refine ext_getD (by rw [mix_len, mix_len, ha, hc]) fun k hk => ?_
  rw [mix_len] at hk
  rw [mix_get hk, mix_get (by omega)]
  split
  · rename_i hb'; exact (seen_iff ha hc).mp h1 k (by omega) hb'
  · rename_i hb'
    refine (seen_iff hb hd).mp h2 k (by omega) ?_
    rw [has_rest m hm s hs k (by omega)]
    cases e : hasB s k with
    | true => exact absurd e hb'
    | false => rfl
theorem has_or : ∀ x, x < 128 → ∀ y, y < 128 → ∀ k, k < 7 → hasB (x ||| y) k = (hasB x k || hasB y k) := fun x _ y _ k _ => by
  unfold hasB
  have e1 : ∀ z : Nat, decide (z / 2 ^ k % 2 = 1) = z.testBit k := fun z => by
    rw [Nat.testBit_eq_decide_div_mod_eq]
  rw [e1, e1, e1, Nat.testBit_or]
/-- a row mixed of two that are seen alike on x is seen as they are there -/
theorem seen_mix {a b : List Int} {x y m : Nat} (hm : m < 8) (hx : x < 2 ^ m) (hy : y < 2 ^ m) (ha : a.length = m) : seenL (mixL a b (x ||| y)) x = seenL a x := by
  have pw : 2 ^ m ≤ 2 ^ 7 := Nat.pow_le_pow_right (by decide) (by omega)
  refine (seen_iff (m := m) (by rw [mix_len, ha]) ha).mpr fun k hk hb => ?_
  rw [mix_get (by omega), if_pos (by rw [has_or x (by omega) y (by omega) k (by omega), hb]; rfl)]
theorem rest_eq : ∀ m, m < 8 → ∀ h : Nat, h < 2 ^ m → Builtin.bitAnd ((2 ^ m - 1 : Nat) : Int) (Builtin.bitNot (h : Int)) = ((2 ^ m - 1 - h : Nat) : Int) := by decide +kernel
/-! ### the promises -/
def SetOk (rws : List RW) (x y : Nat) : Prop := ∀ a ∈ rws, ∀ b ∈ rws, seenL a.2 x = seenL b.2 x → seenL a.2 y = seenL b.2 y
def DealOk (rws : List RW) (x y : Nat) : Prop := ∀ a ∈ rws, ∀ b ∈ rws, seenL a.2 x = seenL b.2 x → ∃ c ∈ rws, c.2 = mixL a.2 b.2 (x ||| y)
def SetBad (rws : List RW) (x y : Nat) (a b : RW) : Prop := a ∈ rws ∧ b ∈ rws ∧ seenL a.2 x = seenL b.2 x ∧ seenL a.2 y ≠ seenL b.2 y
def DealBad (rws : List RW) (x y : Nat) (a b : RW) : Prop := a ∈ rws ∧ b ∈ rws ∧ seenL a.2 x = seenL b.2 x ∧ ∀ c ∈ rws, c.2 ≠ mixL a.2 b.2 (x ||| y)
def Found (H : Hp) (Q : VK) (Ok : Prop) (Bad : RW → RW → Prop) : Prop :=
  (∀ H', Same H H' → Ok → Q .non H') ∧ ∀ (p : Addr) (a b : RW) (H' : Hp), Bad a b → Same H H' → H p = none → H' p = some (.tup [.ref a.1, .ref b.1]) → Q (.ref p) H'
def BookAt (K : PySem.W.Frag) (H : Hp) (bk : Addr) (rws : List RW) (m : Nat) : Prop := SqL K H bk (refsOf rws) ∧ RowsOk H m rws ∧ 1 ≤ m ∧ m ≤ 7 ∧ rws.length ≤ 300
theorem BookAt.same {K : PySem.W.Frag} {H H' : Hp} {bk : Addr} {rws : List RW} {m : Nat} (b : BookAt K H bk rws m) (e : Same H H') : BookAt K H' bk rws m := ⟨e.seq b.1, b.2.1.same e, b.2.2⟩
def spSettle (K : PySem.W.Frag) : Sp := fun vs H Q _ => ∃ (bk : Addr) (rws : List RW) (x y m : Nat), vs = [.ref bk, vN x, vN y] ∧ BookAt K H bk rws m ∧ x < 2 ^ m ∧ y < 2 ^ m ∧ Found H Q (SetOk rws x y) (SetBad rws x y)
def spDeal (K : PySem.W.Frag) : Sp := fun vs H Q _ => ∃ (bk : Addr) (rws : List RW) (x y m : Nat), vs = [.ref bk, vN x, vN y] ∧ BookAt K H bk rws m ∧ x < 2 ^ m ∧ y < 2 ^ m ∧ Found H Q (DealOk rws x y) (DealBad rws x y)
def spLack (K : PySem.W.Frag) : Sp := fun vs H Q _ => ∃ (bk : Addr) (rws : List RW) (h m : Nat), vs = [.ref bk, vN h] ∧ BookAt K H bk rws m ∧ h < 2 ^ m ∧ rws ≠ [] ∧
  Found H Q (∀ a ∈ rws, ∀ b ∈ rws, ∃ c ∈ rws, c.2 = mixL a.2 b.2 h) (fun a b => a ∈ rws ∧ b ∈ rws ∧ ∀ c ∈ rws, c.2 ≠ mixL a.2 b.2 h)
/-- a rule in the heap: its word (settle or not), its sets -/
def wordS (st : Bool) : Str := if st = true then "settle" else "deal"
def RuleAt (H : Hp) (r : Addr) (st : Bool) (x y : Nat) : Prop := H r = some (.tup [.str (wordS st), vN x, vN y])
def ROk (rws : List RW) (st : Bool) (x y : Nat) : Prop := if st = true then SetOk rws x y else DealOk rws x y
def RBad (rws : List RW) (st : Bool) (x y : Nat) (a b : RW) : Prop := if st = true then SetBad rws x y a b else DealBad rws x y a b
theorem RBad.not {rws : List RW} {st : Bool} {x y : Nat} {a b : RW} (h : RBad rws st x y a b) : ¬ ROk rws st x y := fun ok => by
  unfold RBad at h
  unfold ROk at ok
  cases st with
  | true =>
    simp only [if_true] at h ok
    exact h.2.2.2 (ok a h.1 b h.2.1 h.2.2.1)
  | false =>
    simp only [Bool.false_eq_true, if_false] at h ok
    obtain ⟨c, hc, e⟩ := ok a h.1 b h.2.1 h.2.2.1
    exact h.2.2.2 c hc e
def spBreach (K : PySem.W.Frag) : Sp := fun vs H Q _ => ∃ (bk r : Addr) (rws : List RW) (st : Bool) (x y m : Nat), vs = [.ref bk, .ref r] ∧ BookAt K H bk rws m ∧ RuleAt H r st x y ∧ x < 2 ^ m ∧ y < 2 ^ m ∧ Found H Q (ROk rws st x y) (RBad rws st x y)
structure Rl where
  r : Addr
  st : Bool
  x : Nat
  y : Nat
def spKeeps (K : PySem.W.Frag) : Sp := fun vs H Q _ => ∃ (bk rl : Addr) (rws : List RW) (rs : List Rl) (m : Nat), vs = [.ref bk, .ref rl] ∧ BookAt K H bk rws m ∧ SqL K H rl (rs.map fun r => V.ref r.r) ∧ rs.length ≤ 300 ∧ (∀ r ∈ rs, RuleAt H r.r r.st r.x r.y ∧ r.x < 2 ^ m ∧ r.y < 2 ^ m) ∧
  ∀ (k : Bool) (H' : Hp), Same H H' → (k = true ↔ ∀ r ∈ rs, ROk rws r.st r.x r.y) → Q (.bl k) H'
theorem valV_putAll (k : List Key) : ∀ (ps : List Pr) (kvs : List (List Key × V)), (valV (putAll kvs ps) k).isSome = ((valV kvs k).isSome || ps.any fun p => decide (p.k = k))
  | [], kvs => by rw [List.any_nil, Bool.or_false]; rfl
  | p :: ps, kvs => by
    show (valV (putAll (putK kvs p.k p.v) ps) k).isSome = _
    rw [valV_putAll k ps, valV_put, List.any_cons]
    by_cases e : k = p.k
    · rw [if_pos e, decide_eq_true e.symm]
      simp
    · rw [if_neg e, decide_eq_false (fun z => e z.symm), Bool.false_or]
end L2

namespace L2
open PySem PySem.Spec PyProof.Rows
/-! ### the book of a set -/
end L2

namespace L2
open PySem PySem.Spec PyProof.Rows
/-! ### tuples in lists, lists of lists compared -/
section
variable {X : Cx} {K : PySem.W.Frag} {pins : List (Addr × Obj)} {σ : St} {H : Hp} {s : Shared}
end
end L2

namespace L2
open PySem PySem.Spec PyProof.Rows
/-! ### k11: what two rows show -/
end L2

namespace L2
open PySem PySem.Spec PyProof.Rows
/-! ### paths joined -/
section
variable {X : Cx} {st : Stmt} {rest : List Stmt} {t u : TS}
theorem pss_cut (P : St → Hp → Prop) (h1 : PS X st t) (h2 : PSs X rest u) : PSs X (st :: rest) (fun D σ H => t { D with nx := P } σ H ∧ ∀ σ' H', P σ' H' → u D σ' H') := by
  intro pins s σ H D I h
  refine wpAny_execs_cons (thn (h1 pins s σ H { D with nx := P } I h.1) fun f s1 q => ?_)
  cases f with
  | next =>
    obtain ⟨σ', H', I', q⟩ := q
    exact h2 pins s1 σ' H' D I' (h.2 σ' H' q)
  | ret v => exact q
  | brk => exact q
  | cont => exact q
end
/-! ### truths told one by one -/
/-- what the law holds: the book, the rules, what is handed in -/
structure Held (m : Nat) (rws : List RW) (rls : List Rl) (p g l1 l2 h : Addr) (H : Hp) : Prop where
  rows : RowsOk H m rws
  rules : ∀ r ∈ rls, RuleAt H r.r r.st r.x r.y
  hp : H p = some (.lst (refsOf rws))
  hg : H g = some (.lst (rls.map fun r => V.ref r.r))
  h1 : H l1 = some (.lst (refsOf rws))
  h2 : H l2 = some (.lst (rls.map fun r => V.ref r.r))
  hh : H h = some (.lst [.ref l1, .ref l2])
theorem Held.same {m : Nat} {rws : List RW} {rls : List Rl} {p g l1 l2 h : Addr} {H H' : Hp} (A : Held m rws rls p g l1 l2 h H) (s : Same H H') : Held m rws rls p g l1 l2 h H' :=
  ⟨A.rows.same s, fun r hr => s _ _ (A.rules r hr), s _ _ A.hp, s _ _ A.hg, s _ _ A.h1, s _ _ A.h2, s _ _ A.hh⟩
/-- another list of one's own is written -/
theorem Held.put {m : Nat} {rws : List RW} {rls : List Rl} {p g l1 l2 h tr : Addr} {H0 H : Hp} {xs ys : List V} (A0 : Held m rws rls p g l1 l2 h H0) (hn : H0 tr = none) (A : Held m rws rls p g l1 l2 h H) (ht : H tr = some (.lst xs)) : Held m rws rls p g l1 l2 h (upd H tr (.lst ys)) := by
  have n : ∀ {b : Addr} {o : HO}, H0 b = some o → b ≠ tr := fun e => ne_of_none e hn
  exact ⟨fun rw0 h0 => ⟨tup_put ht _ _ (A.rows rw0 h0).1, (A.rows rw0 h0).2⟩, fun r hr => tup_put ht _ _ (A.rules r hr),
    by rw [upd_ne (n A0.hp)]; exact A.hp, by rw [upd_ne (n A0.hg)]; exact A.hg, by rw [upd_ne (n A0.h1)]; exact A.h1, by rw [upd_ne (n A0.h2)]; exact A.h2, by rw [upd_ne (n A0.hh)]; exact A.hh⟩
def Five (rls : List Rl) (xs : List V) (H : Hp) : Prop := ∀ v ∈ xs, ∃ (la : Addr) (sub : List Rl), v = .ref la ∧ H la = some (.lst (sub.map fun r => V.ref r.r)) ∧ sub.length ≤ 200 ∧ ∀ r ∈ sub, r ∈ rls
theorem Five.same {rls : List Rl} {xs : List V} {H H' : Hp} (F : Five rls xs H) (s : Same H H') : Five rls xs H' := fun v hv => by
  obtain ⟨la, sub, e, h1, h2, h3⟩ := F v hv
  exact ⟨la, sub, e, s _ _ h1, h2, h3⟩
end L2

namespace L2
open PySem PySem.Spec PyProof.Rows
/-! ### for i, x in enumerate(a list) -/
section
variable {X : Cx} {pins : List (Addr × Obj)} {σ : St} {H : Hp} {s : Shared}
def Itn (K : PySem.W.Frag) (l : Addr) : It :=
  ⟨fun i H => ∃ xs x, SqL K H l xs ∧ xs[i]? = some x,
   fun i H v H' => ∃ t x, v = .ref t ∧ H t = none ∧ (∀ xs, SqL K H l xs → xs[i]? = some x) ∧ H' = upd H t (.tup [.int (i : Int), x]),
   fun i H => ∃ xs, SqL K H l xs ∧ xs.length ≤ i⟩
def tnN (e it l : Addr) (i : Nat) (h : Heap) : Prop := (∃ old, IsEnum h e it (i : Int) old) ∧ h.IsListIter it l i
theorem turn_enum {P : Program} {w : World} {K : PySem.W.Frag} {es : List Expr} {n : Nat} {tp : Pos} {e it l : Addr} (hne : e ≠ it) : Turn P w K (.Tuple es n tp) (Itn K l) [e, it] e (tnN e it l) where
  mem := by simp
  obj := fun i h st c hc => by
    obtain ⟨⟨old, hE⟩, ⟨oa, ea, _, da⟩⟩ := st
    simp only [List.mem_cons, List.not_mem_nil, or_false] at hc
    rcases hc with rfl | rfl
    · exact ⟨_, hE, fun v r => by cases r⟩
    · exact ⟨_, ea, fun v r => by rw [da] at r; cases r⟩
  keep := fun i h h' st k => by
    obtain ⟨⟨old, hE⟩, ha⟩ := st
    exact ⟨⟨old, k e (by simp) _ hE⟩, ha.at fun o z => k it (by simp) o z⟩
  item := by
    intro X hP hw hK hc i pins s σ H E I hf st hg
    subst hP hw hK
    obtain ⟨xs, x, hx, ex⟩ := hg
    obtain ⟨⟨old, hE⟩, ha⟩ := st
    obtain ⟨i1, r1, t1, _⟩ := I.list hx
    obtain ⟨x', ex', rx⟩ := r1.get ex
    refine wpAny_pyNext_enum_item hE ha t1.isList (x := x') (by simpa using ex') hne fun g c1 c2 c3 c4 c5 => ⟨_, rfl, ?_⟩
    refine wpAny_letOwnedTupleGo_enum c1 fun g' z' k' => ?_
    have nT : H s.heap.objs.size = none := I.fresh
    have lz : s.heap.objs.size ≠ e := Nat.ne_of_gt (Heap.lt_size hE)
    have IA : Inv X pins σ (upd H s.heap.objs.size (.tup [.int (i : Int), x])) { s with heap := s.heap.push { cls := .type "tuple", data := .seq #[.int (i : Int) s.toks, x'] }, toks := s.toks + 1 } :=
      I.laid (t' := s.toks + 1) (fun c o z => Heap.get?_push_of_some _ z) (Nat.le_refl _) (show ObjOk X.prog X.w _ _ _ (.tup [.int (i : Int), x]) from ⟨by show 2 ≤ sizeLine; decide, [.int (i : Int) s.toks, x'], .cons ⟨_, rfl⟩ (.cons rx .nil), ⟨_, Heap.get?_push_size _ rfl, rfl, _, rfl⟩⟩)
    have fp : ∀ c ∈ [e, it], FpOk X pins (upd H s.heap.objs.size (.tup [.int (i : Int), x])) c := fun c hc' => by
      obtain ⟨f0, f1, f2, f3, f4, f5⟩ := hf c hc'
      refine ⟨?_, f1, f2, f3, f4, f5⟩
      rw [upd_ne]
      · exact f0
      · have lt : c < s.heap.objs.size := by
          simp only [List.mem_cons, List.not_mem_nil, or_false] at hc'
          rcases hc' with rfl | rfl
          · exact Heap.lt_size hE
          · obtain ⟨_, z, _⟩ := ha; exact Heap.lt_size z
        exact Nat.ne_of_lt lt
    have IB : Inv X pins σ (upd H s.heap.objs.size (.tup [.int (i : Int), x])) { s with heap := g', toks := s.toks + 1 } := by
      refine IA.turnedL (t' := s.toks + 1) (h' := g') (fun c o hc' z => ?_) fp
      simp only [List.mem_cons, List.not_mem_nil, or_false, not_or] at hc'
      refine k'.extBut _ _ hc'.1 ?_
      by_cases hcT : c = s.heap.objs.size
      · subst hcT
        have e1 : (s.heap.push { cls := .type "tuple", data := .seq #[.int (i : Int) s.toks, x'] }).get? s.heap.objs.size = some { cls := .type "tuple", data := .seq #[.int (i : Int) s.toks, x'] } := Heap.get?_push_size _ rfl
        have e2 := e1.symm.trans z
        rw [← Option.some.inj e2]
        exact c3
      · exact c5 c o hc'.1 hc'.2 (by
          have e1 : (s.heap.push { cls := .type "tuple", data := .seq #[.int (i : Int) s.toks, x'] }).get? c = s.heap.get? c := Heap.get?_push_ne _ _ _ hcT
          rw [← e1]; exact z)
    refine ⟨.ref s.heap.objs.size, _, IB, rfl, ⟨_, x, rfl, nT, fun zs hz => by rw [I.list_inj hz hx]; exact ex, rfl⟩, ⟨⟨x', ?_⟩, c2.extBut k'.extBut hne.symm⟩, fun c hc' => (fp c hc').1⟩
    have ei : ((i + 1 : Nat) : Int) = (i : Int) + 1 := Int.natCast_succ i
    rw [ei]
    exact z'
  done := by
    intro X hP hw hK hc i pins s σ H E I hf st hg
    subst hP hw hK
    obtain ⟨xs, hx, hl⟩ := hg
    obtain ⟨⟨old, hE⟩, ha⟩ := st
    obtain ⟨i1, r1, t1, _⟩ := I.list hx
    have len := r1.length
    refine wpAny_pyNext_enum_end (I.ok.hd hc) hE ha t1.isList (by simp; omega) fun g hk => ⟨rfl, ?_⟩
    refine I.turnedL (t' := s.toks) (h' := g) (ch := [e, it]) (fun c o hc' z => ?_) hf
    simp only [List.mem_cons, List.not_mem_nil, or_false, not_or] at hc'
    exact hk c o hc'.2 z
  self := fun _ _ _ _ _ st h => by
    obtain ⟨⟨old, hE⟩, _⟩ := st
    exact wpAny_pyIter_enum hE h
def iEnum (K : PySem.W.Frag) (ta : TA) : TI := fun σ H R => ta σ H fun vs H1 => ∃ (l : Addr) (xs : List V), vs = [.ref l] ∧ SqL K H1 l xs ∧ R (Itn K l) H1
theorem pi_enum {K : PySem.W.Frag} {es : List Expr} {n : Nat} {tp : Pos} {e1 : Expr} {ta : TA} {np pos : Pos} (hK : X.K = K) (hg : Gl X "enumerate") (hm : X.mg "enumerate" = none) (ha : PA X [e1] ta)
    (hs : starEach [e1] X.env = [(false, eval e1 X.env)] := by rfl) :
    PI X (.Tuple es n tp) (.Call (.Name "enumerate" np) [e1] [] pos) (iEnum K ta) := by
  subst hK
  intro pins s σ H R I h
  refine Call_ (ld_blt I hg hm boot_enumerate (PyProof.Rows.callWith_type1 (thn (ha pos pins s σ H _ I h) fun us s1 ⟨vs, H1, I1, r1, q1⟩ => ?_) (by rw [hs]; rfl) (by rfl)))
  obtain ⟨l, xs, rfl, hl, r⟩ := q1
  obtain ⟨u1, rfl, ru1⟩ := r1.one
  cases ru1
  obtain ⟨i1, v1, t1, _⟩ := I1.list hl
  refine call_enumerate_list t1.isList fun g hE hi hz hk => ?_
  refine wpAny_pyIter_enum hE ⟨s1.heap.objs.size + 1, [s1.heap.objs.size + 1, s1.heap.objs.size], tnN (s1.heap.objs.size + 1) s1.heap.objs.size l, Itn X.K l, H1, rfl, I1.kept (t' := s1.toks) hk, turn_enum (Nat.succ_ne_self _), ⟨⟨_, hE⟩, hi⟩, fun c hc => ?_, r⟩
  have lc : s1.heap.objs.size ≤ c := by
    simp only [List.mem_cons, List.not_mem_nil, or_false] at hc
    rcases hc with rfl | rfl <;> omega
  exact I1.fpOk lc (I1.hok.fresh lc)
theorem for_enum {K : PySem.W.Frag} {l : Addr} {xs : List V} {g : TG} {tb : TS} {D : Ends} {σ : St} {H : Hp} (Pv : Nat → St → Hp → Prop) (h0 : Pv 0 σ H) (hl : ∀ i σ H, i ≤ xs.length → Pv i σ H → SqL K H l xs)
    (hs : ∀ i x σ H t, xs[i]? = some x → Pv i σ H → H t = none → g (.ref t) σ (upd H t (.tup [.int (i : Int), x])) fun σ2 H2 => tb { D with nx := Pv (i + 1), ct := Pv (i + 1), bk := D.nx } σ2 H2) (hd : ∀ σ H, Pv xs.length σ H → D.nx σ H) :
    ∃ W : Nat → Nat → St → Hp → Prop, (∃ m, W 0 m σ H) ∧ ∀ i m σ H, W i m σ H →
      ((Itn K l).stop i H ∧ D.nx σ H) ∨ ((Itn K l).go i H ∧ ∃ N : St → Hp → Prop, (∀ σ' H', N σ' H' → ∃ m', m' < m ∧ W (i + 1) m' σ' H') ∧ ∀ x H', (Itn K l).yld i H x H' → g x σ H' fun σ2 H2 => tb { D with nx := N, ct := N, bk := D.nx } σ2 H2) := by
  refine ⟨fun i m σ H => m = xs.length - i ∧ i ≤ xs.length ∧ Pv i σ H, ⟨xs.length, by simp, Nat.zero_le _, h0⟩, ?_⟩
  rintro i m σ H ⟨rfl, hi, pv⟩
  have h1 := hl i σ H hi pv
  by_cases lt : i < xs.length
  · refine .inr ⟨⟨xs, xs[i], h1, by simp [lt]⟩, Pv (i + 1), fun σ' H' p' => ⟨xs.length - (i + 1), by omega, rfl, lt, p'⟩, fun v H' yv => ?_⟩
    obtain ⟨t, x, rfl, nt, a3, rfl⟩ := yv
    exact hs i x σ H t (a3 xs h1) pv nt
  · obtain rfl : i = xs.length := by omega
    exact .inl ⟨⟨xs, h1, Nat.le_refl _⟩, hd σ H pv⟩
end
end L2

namespace L2
open PySem PySem.Spec PyProof.Rows
/-! ### == and != of values told as data -/
mutual
inductive DV (K : PySem.W.Frag) (H : Hp) : V → PyData → Prop
  | non : DV K H .non .none
  | bl (b : Bool) : DV K H (.bl b) (.bool b)
  | int (i : Int) : DV K H (.int i) (.int i)
  | str (x : Str) : DV K H (.str x) (.str x)
  | lst {a : Addr} {xs : List V} {ds : List PyData} : SqL K H a xs → DVs K H xs ds → DV K H (.ref a) (.list ds)
  | tup {a : Addr} {xs : List V} {ds : List PyData} : SqT K H a xs → DVs K H xs ds → DV K H (.ref a) (.tuple ds)
inductive DVs (K : PySem.W.Frag) (H : Hp) : List V → List PyData → Prop
  | nil : DVs K H [] []
  | cons {x : V} {xs : List V} {d : PyData} {ds : List PyData} : DV K H x d → DVs K H xs ds → DVs K H (x :: xs) (d :: ds)
end
section
variable {X : Cx} {K : PySem.W.Frag} {pins : List (Addr × Obj)} {σ : St} {H : Hp} {s : Shared}
mutual
theorem DV.reads (I : Inv X pins σ H s) : ∀ {v : V} {d : PyData} {u : Value}, DV X.K H v d → RelV v u → ∃ as, Reads s.heap u d as
  | _, _, _, .non, r => by obtain rfl := (show _ = Value.none from r); exact ⟨_, Reads.none⟩
  | _, _, _, .bl b, r => by obtain rfl := (show _ = Value.bool b from r); exact ⟨_, Reads.bool b⟩
  | _, _, _, .int i, r => by obtain ⟨t, rfl⟩ := r; exact ⟨_, .int i t⟩
  | _, _, _, .str x, r => by obtain ⟨t, rfl⟩ := r; exact ⟨_, .str x t⟩
  | _, _, _, .lst (a := a) hx hs, r => by
    obtain rfl := (show _ = Value.ref a from r)
    obtain ⟨its, rv, pl, _⟩ := I.list hx
    obtain ⟨as, ra⟩ := DVs.reads I hs rv
    obtain ⟨o, ho, hc, n, hd⟩ := pl.isList
    exact ⟨_, .list ho hc hd ra⟩
  | _, _, _, .tup (a := a) hx hs, r => by
    obtain rfl := (show _ = Value.ref a from r)
    obtain ⟨its, rv, pl, _⟩ := I.tuple hx
    obtain ⟨as, ra⟩ := DVs.reads I hs rv
    obtain ⟨o, ho, hc, n, hd⟩ := pl
    exact ⟨_, .tuple ho hc hd ra⟩
theorem DVs.reads (I : Inv X pins σ H s) : ∀ {vs : List V} {ds : List PyData} {us : List Value}, DVs X.K H vs ds → Vals vs us → ∃ as, ReadsAll s.heap us ds as
  | _, _, _, .nil, .nil => ⟨_, .nil⟩
  | _, _, _, .cons h hs, .cons r rs => by
    obtain ⟨as, ra⟩ := DV.reads I h r
    obtain ⟨bs, rb⟩ := DVs.reads I hs rs
    exact ⟨_, .cons ra rb⟩
end
def rEqD (K : PySem.W.Frag) (neg : Bool) : R2 := fun x y H Q => ∃ d1 d2 : PyData, DV K H x d1 ∧ DV K H y d2 ∧ SeqAt.shaped d1 = true ∧ SeqAt.shaped d2 = true ∧ SeqAt.noMix d1 d2 = true ∧ Q (.bl (if neg then !same d1 d2 else same d1 d2)) H
theorem op_eqD (h : X.K = K) (hu : X.A.units + 64 < cLine) : OpR X (compareOp .Eq) (rEqD K false) := by
  subst h
  intro pins s σ H x y v u Q I rx ry h
  obtain ⟨d1, d2, h1, h2, s1, s2, nm, q⟩ := h
  obtain ⟨as, ra⟩ := h1.reads I rx
  obtain ⟨bs, rb⟩ := h2.reads I ry
  exact eq_dataH_same ra rb s1 s2 hu nm ⟨.bl _, H, I, rfl, q⟩
theorem op_neD (h : X.K = K) (hu : X.A.units + 64 < cLine) : OpR X (compareOp .NotEq) (rEqD K true) := by
  subst h
  intro pins s σ H x y v u Q I rx ry h
  obtain ⟨d1, d2, h1, h2, s1, s2, nm, q⟩ := h
  obtain ⟨as, ra⟩ := h1.reads I rx
  obtain ⟨bs, rb⟩ := h2.reads I ry
  exact ne_dataH_same ra rb s1 s2 hu nm ⟨.bl _, H, I, rfl, q⟩
end
/-! lists of data of one form -/
section
variable {α : Type} {f : α → PyData}
theorem sameAll_map [DecidableEq α] (h : ∀ a b, same (f a) (f b) = decide (a = b)) : ∀ xs ys : List α, sameAll (xs.map f) (ys.map f) = decide (xs = ys)
  | [], [] => by simp [sameAll]
  | [], _ :: _ => by simp [sameAll]
  | _ :: _, [] => by simp [sameAll]
  | x :: xs, y :: ys => by
    simp only [List.map_cons, sameAll, h, sameAll_map h xs ys]
    by_cases e : x = y <;> simp [e]
theorem noMixAll_map (h : ∀ a b, SeqAt.noMix (f a) (f b) = true) : ∀ xs ys : List α, SeqAt.noMixAll (xs.map f) (ys.map f) = true
  | [], [] => by simp [SeqAt.noMixAll]
  | [], _ :: _ => by simp [SeqAt.noMixAll]
  | _ :: _, [] => by simp [SeqAt.noMixAll]
  | x :: xs, y :: ys => by simp [SeqAt.noMixAll, h, noMixAll_map h xs ys]
theorem canLayAll_map (h : ∀ a, PyData.canLay0 (f a) = true) : ∀ xs : List α, PyData.canLayAll0 (xs.map f) = true
  | [] => by simp [PyData.canLayAll0]
  | x :: xs => by simp [PyData.canLayAll0, h, canLayAll_map h xs]
theorem depthAll_map {n : Nat} (h : ∀ a, PyData.depth (f a) ≤ n) : ∀ xs : List α, PyData.depthAll (xs.map f) ≤ n
  | [] => by simp [PyData.depthAll]
  | x :: xs => by
    have h1 := h x
    have h2 := depthAll_map h xs
    simp only [List.map_cons, PyData.depthAll]
    omega
theorem shaped_map (h : ∀ a, PyData.canLay0 (f a) = true) (hd : ∀ a, PyData.depth (f a) ≤ 10) (xs : List α) : SeqAt.shaped (.list (xs.map f)) = true := by
  have h2 : PyData.depth (.list (xs.map f)) ≤ 64 := by
    have := depthAll_map hd xs
    simp only [PyData.depth]
    omega
  show (PyData.canLay0 (.list (xs.map f)) && decide (PyData.depth (.list (xs.map f)) ≤ 64)) = true
  rw [Bool.and_eq_true]
  exact ⟨by simp only [PyData.canLay0]; exact canLayAll_map h xs, decide_eq_true h2⟩
end
/-- rules -/
def dR (r : Bool × Nat × Nat) : PyData := .tuple [.str (wordS r.1), .int (r.2.1 : Int), .int (r.2.2 : Int)]
theorem noMix_dR (a b : Bool × Nat × Nat) : SeqAt.noMix (dR a) (dR b) = true := by unfold dR; simp [SeqAt.noMix, SeqAt.noMixAll]
theorem canLay_dR (a : Bool × Nat × Nat) : PyData.canLay0 (dR a) = true := by
  unfold dR
  obtain ⟨b, x, y⟩ := a
  have h1 : PyData.strOk (wordS true) = true := by decide +kernel
  have h2 : PyData.strOk (wordS false) = true := by decide +kernel
  cases b <;> simp only [PyData.canLay0, PyData.canLayAll0, h1, h2, Bool.and_true]
theorem depth_dR (a : Bool × Nat × Nat) : PyData.depth (dR a) ≤ 10 := by unfold dR; simp [PyData.depth, PyData.depthAll]
/-! xs[::-1] -/
section
variable {X : Cx} {K : PySem.W.Frag} {e : Expr} {te : TE} {ste : Expr} {tst : TO} {pos p2 : Pos}
end
/-! slices told in naturals -/
theorem cut_take (xs : List V) (k : Nat) : cutV xs none (some (k : Int)) = xs.take k := by
  unfold cutV
  show (xs.drop 0).take (HT.sIx xs.length xs.length (some ((k : Nat) : Int)) - 0) = _
  rw [HT.sIx_nat, List.drop_zero, Nat.sub_zero, List.take_eq_take_iff]
  omega
theorem cut_drop (xs : List V) (k : Nat) : cutV xs (some (k : Int)) none = xs.drop k := by
  unfold cutV
  rw [HT.sIx_nat, HT.sIx_none]
  by_cases h : k ≤ xs.length
  · rw [Nat.min_eq_left h, List.take_of_length_le (by rw [List.length_drop]; exact Nat.le_refl _)]
  · rw [Nat.min_eq_right (by omega), List.drop_eq_nil_of_le (Nat.le_refl _), List.drop_eq_nil_of_le (by omega), List.take_nil]
end L2

namespace L2
open PySem PySem.Spec PyProof.Rows
theorem Same.none {H H' : Hp} {p : Addr} (e : Same H H') (h : H' p = none) : H p = none := by
  cases z : H p with
  | none => rfl
  | some o => rw [e _ _ z] at h; cases h
/-! ### stage 2's laws: what their shared defs promise -/
def usableB (st : Bool) (x y b : Nat) : Bool := decide (x &&& b = 0) && !decide (y &&& b = 0) && (st || !decide (y &&& b = b))
def inN (y : Nat) (bs : List Nat) (at_ : Nat) : Nat := bs.getD at_ 0 &&& y
def outN (y : Nat) (bs : List Nat) (at_ : Nat) : Nat := bs.getD at_ 0 - inN y bs at_
def behindFx (st : Bool) (y fx : Nat) (bs : List Nat) (at_ : Nat) : Nat := if st = true then fx + inN y bs at_ else fx
def behindBs (st : Bool) (y : Nat) (bs : List Nat) (at_ : Nat) : List Nat :=
  bs.take at_ ++ (if st = true then (if 0 < outN y bs at_ then [outN y bs at_] else []) else [inN y bs at_, outN y bs at_]) ++ bs.drop (at_ + 1)
end L2

namespace L2
/-! ### why a draw by 48271 comes to a multiple of four -/
abbrev pM : Nat := 2147483647
abbrev gM : Nat := 48271
theorem pw0 : gM ^ 0 % pM = 1 := rfl
end L2

namespace L2
/-! ### the mathematics of unfolding -/
theorem or_add : ∀ (a b : Nat), a &&& b = 0 → a ||| b = a + b := by
  intro a
  induction a using Nat.strongRecOn with
  | _ a ih =>
    intro b h
    by_cases a0 : a = 0
    · subst a0; simp
    have i := ih (a / 2) (by omega) (b / 2) (by rw [← Nat.and_div_two, h])
    rw [← Nat.or_div_two] at i
    have m1 := Nat.and_mod_two_eq_one (a := a) (b := b)
    have m2 := Nat.or_mod_two_eq_one (a := a) (b := b)
    rw [h] at m1
    omega
theorem dis_iff {a b : Nat} : a &&& b = 0 ↔ ∀ k, a.testBit k = true → b.testBit k = false := by
  constructor
  · intro h k ha
    have e : (a &&& b).testBit k = (0 : Nat).testBit k := by rw [h]
    rw [Nat.testBit_and, Nat.zero_testBit, ha, Bool.true_and] at e
    exact e
  · intro h
    refine Nat.eq_of_testBit_eq fun k => ?_
    rw [Nat.testBit_and, Nat.zero_testBit]
    cases ha : a.testBit k with
    | false => rfl
    | true => rw [h k ha]; rfl
theorem dis_comm {a b : Nat} (h : a &&& b = 0) : b &&& a = 0 := by rw [Nat.and_comm]; exact h
def SubN (c b : Nat) : Prop := ∀ k, c.testBit k = true → b.testBit k = true
theorem dis_sub {a b c : Nat} (h : a &&& b = 0) (s : SubN c b) : a &&& c = 0 := dis_iff.mpr fun k ha => by
  cases hc : c.testBit k with
  | false => rfl
  | true => have := dis_iff.mp h k ha; rw [s k hc] at this; exact this
theorem dis_sub' {a b c : Nat} (h : b &&& a = 0) (s : SubN c b) : c &&& a = 0 := dis_comm (dis_sub (dis_comm h) s)
theorem sub_xor (b y : Nat) : b - (b &&& y) = b ^^^ (b &&& y) := by
  have h0 : (b ^^^ (b &&& y)) &&& (b &&& y) = 0 := dis_iff.mpr fun k h => by
    rw [Nat.testBit_xor, Nat.testBit_and] at h
    rw [Nat.testBit_and]
    cases hb : b.testBit k <;> cases hy : y.testBit k <;> rw [hb, hy] at h <;> first | rfl | (simp at h)
  have h1 : (b ^^^ (b &&& y)) ||| (b &&& y) = b := by
    refine Nat.eq_of_testBit_eq fun k => ?_
    rw [Nat.testBit_or, Nat.testBit_xor, Nat.testBit_and]
    cases hb : b.testBit k <;> cases hy : y.testBit k <;> rfl
  have h2 := or_add _ _ h0
  omega
theorem tb_out (b y k : Nat) : (b - (b &&& y)).testBit k = (b.testBit k && !y.testBit k) := by
  rw [sub_xor, Nat.testBit_xor, Nat.testBit_and]
  cases b.testBit k <;> cases y.testBit k <;> rfl
theorem sub_in (b y : Nat) : SubN (b &&& y) b := fun k h => by
  rw [Nat.testBit_and, Bool.and_eq_true] at h
  exact h.1
theorem sub_out (b y : Nat) : SubN (b - (b &&& y)) b := fun k h => by
  rw [tb_out, Bool.and_eq_true] at h
  exact h.1
theorem dis_in_out (b y : Nat) : (b &&& y) &&& (b - (b &&& y)) = 0 := dis_iff.mpr fun k h => by
  rw [Nat.testBit_and, Bool.and_eq_true] at h
  rw [tb_out, h.1, h.2]; rfl
theorem full_dis {m x : Nat} (h : x < 2 ^ m) : x &&& (2 ^ m - 1 - x) = 0 := dis_iff.mpr fun k hk => by
  have e : 2 ^ m - 1 - x = 2 ^ m - (x + 1) := by omega
  rw [e, Nat.testBit_two_pow_sub_succ h, hk]
  simp
structure Good (m fx : Nat) (bs : List Nat) : Prop where
  sum : fx + bs.sum = 2 ^ m - 1
  pos : ∀ b ∈ bs, 0 < b
  dis : ∀ b ∈ bs, fx &&& b = 0
  pw : bs.Pairwise fun a b => a &&& b = 0
theorem len_sum : ∀ {bs : List Nat}, (∀ b ∈ bs, 0 < b) → bs.length ≤ bs.sum
  | [], _ => Nat.le_refl _
  | b :: bs, h => by
    have h1 := h b (List.mem_cons_self ..)
    have h2 := len_sum (bs := bs) fun c hc => h c (List.mem_cons_of_mem _ hc)
    rw [List.length_cons, List.sum_cons]
    omega
theorem mem_sum : ∀ {bs : List Nat} {b : Nat}, b ∈ bs → b ≤ bs.sum
  | c :: bs, b, h => by
    rw [List.sum_cons]
    rcases List.mem_cons.mp h with rfl | h
    · omega
    · have := mem_sum h
      omega
theorem pow7 {m : Nat} (h : m ≤ 7) : 2 ^ m ≤ 128 := Nat.pow_le_pow_right (by decide) h
theorem Good.len {m fx : Nat} {bs : List Nat} (g : Good m fx bs) (h : m ≤ 7) : bs.length ≤ 127 := by
  have h1 := len_sum g.pos
  have h2 := g.sum
  have h3 := pow7 h
  omega
theorem Good.lt {m fx : Nat} {bs : List Nat} (g : Good m fx bs) {b : Nat} (hb : b ∈ bs) : b < 2 ^ m := by
  have h1 := mem_sum hb
  have h2 := g.sum
  have h3 := Nat.two_pow_pos m
  omega
theorem split_at {bs : List Nat} {i : Nat} (h : i < bs.length) : bs = bs.take i ++ bs.getD i 0 :: bs.drop (i + 1) := by
  have e : bs.getD i 0 = bs[i] := by rw [List.getD_eq_getElem?_getD, List.getElem?_eq_getElem h]; rfl
  rw [e, ← List.drop_eq_getElem_cons h, List.take_append_drop]
theorem usable_in {st : Bool} {x y b : Nat} (h : usableB st x y b = true) : x &&& b = 0 ∧ 0 < b &&& y ∧ (st = true ∨ b &&& y < b) := by
  unfold usableB at h
  rw [Bool.and_eq_true, Bool.and_eq_true] at h
  obtain ⟨⟨h1, h2⟩, h3⟩ := h
  have e1 := of_decide_eq_true h1
  have e2 : ¬ (y &&& b = 0) := by
    intro z; rw [decide_eq_true z] at h2; cases h2
  rw [Nat.and_comm] at e2
  refine ⟨e1, by omega, ?_⟩
  rw [Bool.or_eq_true] at h3
  rcases h3 with h3 | h3
  · exact .inl h3
  · right
    have e3 : ¬ (y &&& b = b) := by
      intro z; rw [decide_eq_true z] at h3; cases h3
    rw [Nat.and_comm] at e3
    have := Nat.and_le_left (n := b) (m := y)
    omega
theorem Good.use {m fx : Nat} {bs : List Nat} (g : Good m fx bs) {st : Bool} {x y i : Nat} (hi : i < bs.length) (hu : usableB st x y (bs.getD i 0) = true) :
    Good m (behindFx st y fx bs i) (behindBs st y bs i) ∧ 2 * (behindBs st y bs i).sum - (behindBs st y bs i).length < 2 * bs.sum - bs.length := by
  obtain ⟨_, hin, hout⟩ := usable_in hu
  have e := split_at hi
  have ls := len_sum g.pos
  unfold behindFx behindBs outN inN
  generalize bs.getD i 0 = b at e hin hout
  generalize bs.take i = p at e
  generalize bs.drop (i + 1) = q at e
  subst e
  have le : b &&& y ≤ b := Nat.and_le_left
  obtain ⟨sm, ps, ds, pw⟩ := g
  have hb : b ∈ p ++ b :: q := List.mem_append_right _ (List.mem_cons_self ..)
  have hp : ∀ c ∈ p, c ∈ p ++ b :: q := fun c hc => List.mem_append_left _ hc
  have hq : ∀ c ∈ q, c ∈ p ++ b :: q := fun c hc => List.mem_append_right _ (List.mem_cons_of_mem _ hc)
  have db := ds b hb
  rw [List.pairwise_append, List.pairwise_cons] at pw
  obtain ⟨pp, ⟨bq, qq⟩, pq⟩ := pw
  have pb : ∀ c ∈ p, c &&& b = 0 := fun c hc => pq c hc b (List.mem_cons_self ..)
  have pq' : ∀ c ∈ p, ∀ d ∈ q, c &&& d = 0 := fun c hc d hd => pq c hc d (List.mem_cons_of_mem _ hd)
  have sm' : (p ++ b :: q).sum = p.sum + (b + q.sum) := by rw [List.sum_append, List.sum_cons]
  have ln' : (p ++ b :: q).length = p.length + (q.length + 1) := by rw [List.length_append, List.length_cons]
  rw [sm'] at sm ls
  rw [sm', ln']
  rw [ln'] at ls
  have lp : p.length ≤ p.sum := len_sum fun c hc => ps c (hp c hc)
  have lq : q.length ≤ q.sum := len_sum fun c hc => ps c (hq c hc)
  have orfx : ∀ c, fx &&& c = 0 → (b &&& y) &&& c = 0 → (fx + (b &&& y)) &&& c = 0 := fun c h1 h2 => by
    rw [← or_add _ _ (dis_sub db (sub_in b y))]
    refine dis_iff.mpr fun k hk => ?_
    rw [Nat.testBit_or, Bool.or_eq_true] at hk
    rcases hk with hk | hk
    · exact dis_iff.mp h1 k hk
    · exact dis_iff.mp h2 k hk
  have inp : ∀ c ∈ p, (b &&& y) &&& c = 0 := fun c hc => dis_comm (dis_sub (pb c hc) (sub_in b y))
  have inq : ∀ c ∈ q, (b &&& y) &&& c = 0 := fun c hc => dis_sub' (bq c hc) (sub_in b y)
  have outp : ∀ c ∈ p, c &&& (b - (b &&& y)) = 0 := fun c hc => dis_sub (pb c hc) (sub_out b y)
  have outq : ∀ c ∈ q, (b - (b &&& y)) &&& c = 0 := fun c hc => dis_sub' (bq c hc) (sub_out b y)
  cases st with
  | true =>
    simp only [if_true]
    by_cases ho : 0 < b - (b &&& y)
    · rw [if_pos ho]
      refine ⟨⟨?_, ?_, ?_, ?_⟩, ?_⟩
      · rw [List.append_assoc, List.sum_append, List.singleton_append, List.sum_cons]; omega
      · intro c hc
        rcases List.mem_append.mp hc with hc | hc
        · rcases List.mem_append.mp hc with hc | hc
          · exact ps c (hp c hc)
          · rw [List.mem_singleton.mp hc]; exact ho
        · exact ps c (hq c hc)
      · intro c hc
        rcases List.mem_append.mp hc with hc | hc
        · rcases List.mem_append.mp hc with hc | hc
          · exact orfx c (ds c (hp c hc)) (inp c hc)
          · rw [List.mem_singleton.mp hc]; exact orfx _ (dis_sub db (sub_out b y)) (dis_in_out b y)
        · exact orfx c (ds c (hq c hc)) (inq c hc)
      · rw [List.append_assoc, List.singleton_append, List.pairwise_append, List.pairwise_cons]
        refine ⟨pp, ⟨outq, qq⟩, fun c hc d hd => ?_⟩
        rcases List.mem_cons.mp hd with rfl | hd
        · exact outp c hc
        · exact pq' c hc d hd
      · rw [List.append_assoc, List.sum_append, List.singleton_append, List.sum_cons, List.length_append, List.length_cons]; omega
    · rw [if_neg ho, List.append_nil]
      refine ⟨⟨?_, ?_, ?_, ?_⟩, ?_⟩
      · rw [List.sum_append]; omega
      · intro c hc
        rcases List.mem_append.mp hc with hc | hc
        · exact ps c (hp c hc)
        · exact ps c (hq c hc)
      · intro c hc
        rcases List.mem_append.mp hc with hc | hc
        · exact orfx c (ds c (hp c hc)) (inp c hc)
        · exact orfx c (ds c (hq c hc)) (inq c hc)
      · rw [List.pairwise_append]
        exact ⟨pp, qq, pq'⟩
      · rw [List.sum_append, List.length_append]; omega
  | false =>
    have ho : 0 < b - (b &&& y) := by
      rcases hout with h | h
      · cases h
      · omega
    simp only [Bool.false_eq_true, if_false]
    rw [List.append_assoc, List.cons_append, List.cons_append, List.nil_append]
    refine ⟨⟨?_, ?_, ?_, ?_⟩, ?_⟩
    · rw [List.sum_append, List.sum_cons, List.sum_cons]; omega
    · intro c hc
      rcases List.mem_append.mp hc with hc | hc
      · exact ps c (hp c hc)
      · rcases List.mem_cons.mp hc with rfl | hc
        · exact hin
        · rcases List.mem_cons.mp hc with rfl | hc
          · exact ho
          · exact ps c (hq c hc)
    · intro c hc
      rcases List.mem_append.mp hc with hc | hc
      · exact ds c (hp c hc)
      · rcases List.mem_cons.mp hc with rfl | hc
        · exact dis_sub db (sub_in b y)
        · rcases List.mem_cons.mp hc with rfl | hc
          · exact dis_sub db (sub_out b y)
          · exact ds c (hq c hc)
    · rw [List.pairwise_append, List.pairwise_cons, List.pairwise_cons]
      refine ⟨pp, ⟨fun d hd => ?_, outq, qq⟩, fun c hc d hd => ?_⟩
      · rcases List.mem_cons.mp hd with rfl | hd
        · exact dis_in_out b y
        · exact inq d hd
      · rcases List.mem_cons.mp hd with rfl | hd
        · exact dis_comm (inp c hc)
        · rcases List.mem_cons.mp hd with rfl | hd
          · exact outp c hc
          · exact pq' c hc d hd
    · rw [List.sum_append, List.sum_cons, List.sum_cons, List.length_append, List.length_cons, List.length_cons]; omega
/-- the blocks at the beginning -/
def beginBs (m x : Nat) : List Nat := if x < 2 ^ m - 1 then [2 ^ m - 1 - x] else []
theorem Good.begin {m x : Nat} (h : x < 2 ^ m) : Good m x (beginBs m x) := by
  unfold beginBs
  split
  · refine ⟨by simp; omega, fun b hb => ?_, fun b hb => ?_, List.pairwise_singleton _ _⟩
    · rw [List.mem_singleton.mp hb]; omega
    · rw [List.mem_singleton.mp hb]; exact full_dis h
  · exact ⟨by simp; omega, fun b hb => absurd hb List.not_mem_nil, fun b hb => absurd hb List.not_mem_nil, List.Pairwise.nil⟩
/-! uses, in their order -/
abbrev RD := Bool × Nat × Nat
def usB (r : RD) (b : Nat) : Bool := usableB r.1 r.2.1 r.2.2 b
def usesR (r : RD) (k : Nat) (bs : List Nat) (n : Nat) : List (Nat × Nat) := ((List.range n).filter fun a => usB r (bs.getD a 0)).map fun a => (k, a)
def rdAt (rs : List RD) (k : Nat) : RD := rs.getD k (false, 0, 0)
def usesN (rs : List RD) (bs : List Nat) (i : Nat) : List (Nat × Nat) := (List.range i).flatMap fun k => usesR (rdAt rs k) k bs bs.length
theorem mem_usesR {r : RD} {k n : Nat} {bs : List Nat} {u : Nat × Nat} (h : u ∈ usesR r k bs n) : u.1 = k ∧ u.2 < n ∧ usB r (bs.getD u.2 0) = true := by
  unfold usesR at h
  obtain ⟨a, ha, rfl⟩ := List.mem_map.mp h
  obtain ⟨h1, h2⟩ := List.mem_filter.mp ha
  exact ⟨rfl, List.mem_range.mp h1, h2⟩
theorem mem_usesN {rs : List RD} {bs : List Nat} {i : Nat} {u : Nat × Nat} (h : u ∈ usesN rs bs i) : u.1 < i ∧ u.2 < bs.length ∧ usB (rdAt rs u.1) (bs.getD u.2 0) = true := by
  unfold usesN at h
  obtain ⟨k, hk, hu⟩ := List.mem_flatMap.mp h
  obtain ⟨rfl, h2, h3⟩ := mem_usesR hu
  exact ⟨List.mem_range.mp hk, h2, h3⟩
theorem uses_nil {rs : List RD} {bs : List Nat} (h : usesN rs bs rs.length = []) {r : RD} (hr : r ∈ rs) {b : Nat} (hb : b ∈ bs) : usB r b = false := by
  cases e : usB r b with
  | false => rfl
  | true =>
    exfalso
    obtain ⟨k, hk, rfl⟩ := List.getElem_of_mem hr
    obtain ⟨a, ha, rfl⟩ := List.getElem_of_mem hb
    have e1 : rdAt rs k = rs[k] := by unfold rdAt; rw [List.getD_eq_getElem?_getD, List.getElem?_eq_getElem hk]; rfl
    have e2 : bs.getD a 0 = bs[a] := by rw [List.getD_eq_getElem?_getD, List.getElem?_eq_getElem ha]; rfl
    have : (k, a) ∈ usesN rs bs rs.length := by
      unfold usesN
      refine List.mem_flatMap.mpr ⟨k, List.mem_range.mpr hk, ?_⟩
      unfold usesR
      refine List.mem_map.mpr ⟨a, List.mem_filter.mpr ⟨List.mem_range.mpr ha, ?_⟩, rfl⟩
      rw [e1, e2]; exact e
    rw [h] at this
    exact absurd this List.not_mem_nil
/-! a run -/
structure US where
  fx : Nat
  bs : List Nat
  st : List (Nat × Nat)
def stepS (rs : List RD) (s : US) (u : Nat × Nat) : US :=
  ⟨behindFx (rdAt rs u.1).1 (rdAt rs u.1).2.2 s.fx s.bs u.2, behindBs (rdAt rs u.1).1 (rdAt rs u.1).2.2 s.bs u.2, s.st ++ [(u.1, s.bs.getD u.2 0)]⟩
inductive Run (rs : List RD) : US → US → Prop
  | done {s : US} : usesN rs s.bs rs.length = [] → Run rs s s
  | step {s t : US} {u : Nat × Nat} {us : List (Nat × Nat)} : usesN rs s.bs rs.length = u :: us → Run rs (stepS rs s u) t → Run rs s t
def muS (bs : List Nat) : Nat := 2 * bs.sum - bs.length
theorem step_good {rs : List RD} {s : US} {u : Nat × Nat} {m : Nat} (g : Good m s.fx s.bs) (h : u ∈ usesN rs s.bs rs.length) : Good m (stepS rs s u).fx (stepS rs s u).bs ∧ muS (stepS rs s u).bs < muS s.bs := by
  obtain ⟨_, h2, h3⟩ := mem_usesN h
  exact g.use h2 h3
theorem step_st (rs : List RD) (s : US) (u : Nat × Nat) : (stepS rs s u).st.length = s.st.length + 1 := by
  unfold stepS
  rw [List.length_append]; rfl
/-! the parts drawn by k20's law -/
structure PartsI (m fx rest : Nat) (bs : List Nat) : Prop where
  sum : fx + rest + bs.sum = 2 ^ m - 1
  pos : ∀ b ∈ bs, 0 < b
  fr : fx &&& rest = 0
  dis : ∀ b ∈ bs, fx &&& b = 0
  rst : ∀ b ∈ bs, rest &&& b = 0
  pw : bs.Pairwise fun a b => a &&& b = 0
theorem pw_snoc {bs : List Nat} {c : Nat} (h : bs.Pairwise fun a b => a &&& b = 0) (hc : ∀ b ∈ bs, c &&& b = 0) : (bs ++ [c]).Pairwise fun a b => a &&& b = 0 := by
  rw [List.pairwise_append]
  exact ⟨h, List.pairwise_singleton _ _, fun a ha b hb => by rw [List.mem_singleton.mp hb]; exact dis_comm (hc a ha)⟩
theorem PartsI.take {m fx rest : Nat} {bs : List Nat} (P : PartsI m fx rest bs) (z : Nat) : PartsI m fx (rest - (rest &&& z)) (if 0 < rest &&& z then bs ++ [rest &&& z] else bs) := by
  have le : rest &&& z ≤ rest := Nat.and_le_left
  have sm := P.sum
  have fo := dis_sub P.fr (sub_out rest z)
  have fi := dis_sub P.fr (sub_in rest z)
  have ro : ∀ b ∈ bs, (rest - (rest &&& z)) &&& b = 0 := fun b hb => dis_sub' (P.rst b hb) (sub_out rest z)
  have ri : ∀ b ∈ bs, (rest &&& z) &&& b = 0 := fun b hb => dis_sub' (P.rst b hb) (sub_in rest z)
  by_cases h : 0 < rest &&& z
  · rw [if_pos h]
    refine ⟨?_, fun b hb => ?_, fo, fun b hb => ?_, fun b hb => ?_, pw_snoc P.pw ri⟩
    · rw [List.sum_append, List.sum_cons, List.sum_nil]; omega
    · rcases List.mem_append.mp hb with hb | hb
      · exact P.pos b hb
      · rw [List.mem_singleton.mp hb]; exact h
    · rcases List.mem_append.mp hb with hb | hb
      · exact P.dis b hb
      · rw [List.mem_singleton.mp hb]; exact fi
    · rcases List.mem_append.mp hb with hb | hb
      · exact ro b hb
      · rw [List.mem_singleton.mp hb]; exact dis_comm (dis_in_out rest z)
  · rw [if_neg h]
    exact ⟨by omega, P.pos, fo, P.dis, ro, P.pw⟩
theorem PartsI.all {m fx rest : Nat} {bs : List Nat} (P : PartsI m fx rest bs) (h : 0 < rest) : PartsI m fx 0 (bs ++ [rest]) := by
  have sm := P.sum
  refine ⟨?_, fun b hb => ?_, by simp, fun b hb => ?_, fun b hb => by simp, pw_snoc P.pw P.rst⟩
  · rw [List.sum_append, List.sum_cons, List.sum_nil]; omega
  · rcases List.mem_append.mp hb with hb | hb
    · exact P.pos b hb
    · rw [List.mem_singleton.mp hb]; exact h
  · rcases List.mem_append.mp hb with hb | hb
    · exact P.dis b hb
    · rw [List.mem_singleton.mp hb]; exact P.fr
theorem PartsI.good {m fx rest : Nat} {bs : List Nat} (P : PartsI m fx rest bs) : Good m (fx + rest) bs := by
  refine ⟨P.sum, P.pos, fun b hb => ?_, P.pw⟩
  rw [← or_add _ _ P.fr]
  refine dis_iff.mpr fun k hk => ?_
  rw [Nat.testBit_or, Bool.or_eq_true] at hk
  rcases hk with hk | hk
  · exact dis_iff.mp (P.dis b hb) k hk
  · exact dis_iff.mp (P.rst b hb) k hk
theorem PartsI.begin {m : Nat} (a c : Nat) : PartsI m (a &&& (2 ^ m - 1) &&& c) (2 ^ m - 1 - (a &&& (2 ^ m - 1) &&& c)) [] := by
  have le : a &&& (2 ^ m - 1) &&& c ≤ 2 ^ m - 1 := Nat.le_trans Nat.and_le_left Nat.and_le_right
  have p := Nat.two_pow_pos m
  generalize a &&& (2 ^ m - 1) &&& c = w at le
  refine ⟨by show w + (2 ^ m - 1 - w) + 0 = _; omega, fun b hb => absurd hb List.not_mem_nil, full_dis (by omega), fun b hb => absurd hb List.not_mem_nil, fun b hb => absurd hb List.not_mem_nil, List.Pairwise.nil⟩
/-! every column is fixed or in a block -/
def orL (bs : List Nat) : Nat := bs.foldr (· ||| ·) 0
theorem orL_dis {c : Nat} : ∀ {bs : List Nat}, (∀ b ∈ bs, c &&& b = 0) → c &&& orL bs = 0
  | [], _ => by simp [orL]
  | b :: bs, h => by
    show c &&& (b ||| orL bs) = 0
    have h1 := h b (List.mem_cons_self ..)
    have h2 := orL_dis (bs := bs) fun d hd => h d (List.mem_cons_of_mem _ hd)
    refine dis_iff.mpr fun k hk => ?_
    rw [Nat.testBit_or, dis_iff.mp h1 k hk, dis_iff.mp h2 k hk]; rfl
theorem orL_sum : ∀ {bs : List Nat}, (bs.Pairwise fun a b => a &&& b = 0) → orL bs = bs.sum
  | [], _ => rfl
  | b :: bs, h => by
    rw [List.pairwise_cons] at h
    show b ||| orL bs = _
    rw [or_add _ _ (orL_dis h.1), orL_sum h.2, List.sum_cons]
theorem tb_orL {k : Nat} : ∀ {bs : List Nat}, (orL bs).testBit k = true ↔ ∃ b ∈ bs, b.testBit k = true
  | [] => by simp [orL]
  | b :: bs => by
    show (b ||| orL bs).testBit k = true ↔ _
    rw [Nat.testBit_or, Bool.or_eq_true, tb_orL (bs := bs)]
    constructor
    · rintro (h | ⟨c, hc, h⟩)
      · exact ⟨b, List.mem_cons_self .., h⟩
      · exact ⟨c, List.mem_cons_of_mem _ hc, h⟩
    · rintro ⟨c, hc, h⟩
      rcases List.mem_cons.mp hc with rfl | hc
      · exact .inl h
      · exact .inr ⟨c, hc, h⟩
theorem Good.col {m fx : Nat} {bs : List Nat} (g : Good m fx bs) {k : Nat} : fx.testBit k = true ↔ k < m ∧ ∀ b ∈ bs, b.testBit k = false := by
  have e : fx ||| orL bs = 2 ^ m - 1 := by rw [or_add _ _ (orL_dis g.dis), orL_sum g.pw, g.sum]
  have t : (fx ||| orL bs).testBit k = decide (k < m) := by rw [e, Nat.testBit_two_pow_sub_one]
  rw [Nat.testBit_or] at t
  constructor
  · intro h
    rw [h, Bool.true_or] at t
    exact ⟨of_decide_eq_true t.symm, fun b hb => dis_iff.mp (g.dis b hb) k h⟩
  · rintro ⟨hk, h⟩
    rw [decide_eq_true hk, Bool.or_eq_true] at t
    rcases t with t | t
    · exact t
    · obtain ⟨b, hb, hbk⟩ := tb_orL.mp t
      rw [h b hb] at hbk; cases hbk
/-! a set whose book keeps the rules stays within one block -/
theorem usable_sub {st : Bool} {x y b d : Nat} (hu : usableB st x y b = true) (hd : usableB st x y d = false) (s : SubN d b) : y &&& d = 0 ∨ (st = false ∧ y &&& d = d) := by
  obtain ⟨h1, _, _⟩ := usable_in hu
  have h2 : x &&& d = 0 := dis_sub h1 s
  unfold usableB at hd
  rw [decide_eq_true h2, Bool.true_and] at hd
  by_cases h3 : y &&& d = 0
  · exact .inl h3
  · right
    rw [decide_eq_false h3, Bool.not_false, Bool.true_and, Bool.or_eq_false_iff] at hd
    refine ⟨hd.1, ?_⟩
    by_cases h4 : y &&& d = d
    · exact h4
    · rw [decide_eq_false h4] at hd; cases hd.2
theorem keep_in {st : Bool} {x y d i : Nat} {bs : List Nat} (hi : i < bs.length) (hu : usableB st x y (bs.getD i 0) = true) (hd : usableB st x y d = false) (d0 : d ≠ 0) (h : ∃ b ∈ bs, SubN d b) : ∃ b ∈ behindBs st y bs i, SubN d b := by
  obtain ⟨b, hb, hs⟩ := h
  have e := split_at hi
  unfold behindBs outN inN
  generalize bs.getD i 0 = c at e hu
  generalize bs.take i = p at e
  generalize bs.drop (i + 1) = q at e
  subst e
  rcases List.mem_append.mp hb with hb | hb
  · exact ⟨b, List.mem_append_left _ (List.mem_append_left _ hb), hs⟩
  rcases List.mem_cons.mp hb with rfl | hb
  · have so : y &&& d = 0 → SubN d (b - (b &&& y)) := fun z k hk => by
      rw [tb_out, hs k hk, dis_iff.mp (dis_comm z) k hk]; rfl
    have si : y &&& d = d → SubN d (b &&& y) := fun z k hk => by
      have : (y &&& d).testBit k = true := by rw [z]; exact hk
      rw [Nat.testBit_and, Bool.and_eq_true] at this
      rw [Nat.testBit_and, hs k hk, this.1]; rfl
    have ne : SubN d (b - (b &&& y)) → 0 < b - (b &&& y) := fun z => by
      apply Nat.pos_of_ne_zero
      intro e0
      apply d0
      refine Nat.eq_of_testBit_eq fun k => ?_
      rw [Nat.zero_testBit]
      cases hk : d.testBit k with
      | false => rfl
      | true => have := z k hk; rw [e0, Nat.zero_testBit] at this; cases this
    rcases usable_sub hu hd hs with z | ⟨rfl, z⟩
    · refine ⟨b - (b &&& y), List.mem_append_left _ (List.mem_append_right _ ?_), so z⟩
      cases st with
      | true => rw [if_pos rfl, if_pos (ne (so z))]; exact List.mem_singleton.mpr rfl
      | false => rw [if_neg Bool.false_ne_true]; exact List.mem_cons_of_mem _ (List.mem_singleton.mpr rfl)
    · exact ⟨b &&& y, List.mem_append_left _ (List.mem_append_right _ (List.mem_cons_self ..)), si z⟩
  · exact ⟨b, List.mem_append_right _ hb, hs⟩
theorem rd_mem {rs : List RD} {k : Nat} (h : k < rs.length) : rdAt rs k ∈ rs := by
  unfold rdAt
  rw [List.getD_eq_getElem?_getD, List.getElem?_eq_getElem h]
  exact List.getElem_mem h
/-- what a run comes to -/
theorem Run.good {rs : List RD} {s t : US} {m : Nat} (h : Run rs s t) : Good m s.fx s.bs → Good m t.fx t.bs ∧ usesN rs t.bs rs.length = [] := by
  induction h with
  | done h => exact fun g => ⟨g, h⟩
  | step e _ ih => exact fun g => ih (step_good g (by rw [e]; exact List.mem_cons_self ..)).1
theorem Run.keep {rs : List RD} {s t : US} {d : Nat} (h : Run rs s t) (d0 : d ≠ 0) (hd : ∀ r ∈ rs, usB r d = false) : (∃ b ∈ s.bs, SubN d b) → ∃ b ∈ t.bs, SubN d b := by
  induction h with
  | done h => exact id
  | step e _ ih =>
    intro z
    obtain ⟨h1, h2, h3⟩ := mem_usesN (rs := rs) (by rw [e]; exact List.mem_cons_self ..)
    exact ih (keep_in h2 h3 (hd _ (rd_mem h1)) d0 z)
theorem begin_sub {m x d : Nat} (hx : x < 2 ^ m) (hd : d < 2 ^ m) (d0 : d ≠ 0) (z : d &&& x = 0) : ∃ b ∈ beginBs m x, SubN d b := by
  have s : SubN d (2 ^ m - 1 - x) := fun k hk => by
    have e : 2 ^ m - 1 - x = 2 ^ m - (x + 1) := by omega
    rw [e, Nat.testBit_two_pow_sub_succ hx, dis_iff.mp z k hk]
    have : k < m := by
      apply Nat.lt_of_not_le
      intro le
      have : d.testBit k = false := Nat.testBit_lt_two_pow (Nat.lt_of_lt_of_le hd (Nat.pow_le_pow_right (by decide) le))
      rw [this] at hk; cases hk
    rw [decide_eq_true this]; rfl
  have lt : x < 2 ^ m - 1 := by
    apply Nat.lt_of_not_le
    intro le
    apply d0
    have e : 2 ^ m - 1 - x = 0 := by omega
    refine Nat.eq_of_testBit_eq fun k => ?_
    rw [Nat.zero_testBit]
    cases hk : d.testBit k with
    | false => rfl
    | true => have := s k hk; rw [e, Nat.zero_testBit] at this; cases this
  unfold beginBs
  rw [if_pos lt]
  exact ⟨_, List.mem_singleton.mpr rfl, s⟩
theorem behind_sub {st : Bool} {y i k : Nat} {bs : List Nat} (hi : i < bs.length) (h : ∃ b ∈ behindBs st y bs i, b.testBit k = true) : ∃ b ∈ bs, b.testBit k = true := by
  obtain ⟨b, hb, hk⟩ := h
  have e := split_at hi
  unfold behindBs outN inN at hb
  generalize bs.getD i 0 = c at e hb
  generalize bs.take i = p at e hb
  generalize bs.drop (i + 1) = q at e hb
  subst e
  rcases List.mem_append.mp hb with hb | hb
  · rcases List.mem_append.mp hb with hb | hb
    · exact ⟨b, List.mem_append_left _ hb, hk⟩
    · refine ⟨c, List.mem_append_right _ (List.mem_cons_self ..), ?_⟩
      cases st with
      | true =>
        rw [if_pos rfl] at hb
        split at hb
        · rw [List.mem_singleton.mp hb] at hk; exact sub_out c y k hk
        · exact absurd hb List.not_mem_nil
      | false =>
        rw [if_neg Bool.false_ne_true] at hb
        rcases List.mem_cons.mp hb with rfl | hb
        · exact sub_in c y k hk
        · rw [List.mem_singleton.mp hb] at hk; exact sub_out c y k hk
  · exact ⟨b, List.mem_append_right _ (List.mem_cons_of_mem _ hb), hk⟩
/-- no block at the end has a column that no block had -/
theorem Run.sub {rs : List RD} {s t : US} {k : Nat} (h : Run rs s t) : (∃ b ∈ t.bs, b.testBit k = true) → ∃ b ∈ s.bs, b.testBit k = true := by
  induction h with
  | done h => exact id
  | step e _ ih =>
    intro z
    obtain ⟨_, h2, _⟩ := mem_usesN (rs := rs) (by rw [e]; exact List.mem_cons_self ..)
    exact behind_sub h2 (ih z)
end L2

namespace L2
open PySem PySem.Spec PyProof.Rows
/-! ### what is not in a set, min, an object of one's own written -/
theorem Same.own {H H' : Hp} {p : Addr} {o : HO} (e : Same H H') (h : H p = Option.none) : Same H (upd H' p o) := fun c u z => by
  rw [upd_ne (ne_of_none z h)]
  exact e c u z
section
variable {X : Cx} {K : PySem.W.Frag}
theorem pg_tupK {es : List Expr} {k : Nat} {pos : Pos} {t : TGs} {n : Nat} (hK : X.K = K) (hc : X.calm = true) (h : PGs X es t) (hn : (assignEach es X.env).length = n) (hst : (assignEach es X.env).findIdx? (·.1) = none) : PG X (.Tuple es k pos) (gTup K n t) := hK ▸ pg_tup hc h hn hst
end
/-! ### what the unfolding's defs promise -/
def Rl.d (r : Rl) : RD := (r.st, r.x, r.y)
def RulesAt (H : Hp) (m : Nat) (rs : List Rl) : Prop := ∀ r ∈ rs, RuleAt H r.r r.st r.x r.y ∧ r.x < 2 ^ m ∧ r.y < 2 ^ m
theorem RulesAt.same {H H' : Hp} {m : Nat} {rs : List Rl} (h : RulesAt H m rs) (e : Same H H') : RulesAt H' m rs := fun r hr => ⟨e _ _ (h r hr).1, (h r hr).2⟩
/-- tuples of two numbers in the heap -/
abbrev SW := Addr × (Nat × Nat)
def StepsAt (H : Hp) (sw : List SW) : Prop := ∀ w ∈ sw, H w.1 = some (.tup [vN w.2.1, vN w.2.2])
theorem StepsAt.same {H H' : Hp} {sw : List SW} (h : StepsAt H sw) (e : Same H H') : StepsAt H' sw := fun w hw => e _ _ (h w hw)
theorem StepsAt.put {H : Hp} {sw : List SW} {q : Addr} {xs ys : List V} (h : StepsAt H sw) (hq : H q = some (.lst xs)) : StepsAt (upd H q (.lst ys)) sw := fun w hw => by
  rw [upd_ne (ne_of (h w hw) hq (by intro z; cases z))]
  exact h w hw
theorem StepsAt.snoc {H : Hp} {sw : List SW} {w : SW} (h : StepsAt H sw) (hw : H w.1 = some (.tup [vN w.2.1, vN w.2.2])) : StepsAt H (sw ++ [w]) := fun v hv => by
  rcases List.mem_append.mp hv with hv | hv
  · exact h v hv
  · rw [List.mem_singleton.mp hv]; exact hw
theorem StepsAt.append {H : Hp} {sw sv : List SW} (h : StepsAt H sw) (h' : StepsAt H sv) : StepsAt H (sw ++ sv) := fun v hv => by
  rcases List.mem_append.mp hv with hv | hv
  · exact h v hv
  · exact h' v hv
theorem rd_len (rs : List Rl) : (rs.map Rl.d).length = rs.length := List.length_map ..
/-! data -/
theorem same_list {α : Type} [DecidableEq α] {f : α → PyData} (h : ∀ a b, same (f a) (f b) = decide (a = b)) (xs ys : List α) : same (.list (xs.map f)) (.list (ys.map f)) = decide (xs = ys) := by
  simp only [same]
  exact sameAll_map h xs ys
theorem noMix_list {α : Type} {f : α → PyData} (h : ∀ a b, SeqAt.noMix (f a) (f b) = true) (xs ys : List α) : SeqAt.noMix (.list (xs.map f)) (.list (ys.map f)) = true := by
  simp only [SeqAt.noMix]
  exact noMixAll_map h xs ys
theorem same_dR (a b : RD) : same (dR a) (dR b) = decide (a = b) := by
  unfold dR
  obtain ⟨a1, a2, a3⟩ := a
  obtain ⟨b1, b2, b3⟩ := b
  have hw : (wordS a1 = wordS b1) ↔ a1 = b1 := by
    constructor
    · intro h
      cases a1 <;> cases b1 <;> first | rfl | (exact absurd h (by decide))
    · rintro rfl; rfl
  by_cases h1 : a1 = b1 <;> by_cases h2 : a2 = b2 <;> by_cases h3 : a3 = b3 <;> simp [same, sameAll, hw, h1, h2, h3, Int.ofNat_inj]
theorem rules_dv {K : PySem.W.Frag} {H : Hp} {m : Nat} : ∀ {rs : List Rl}, RulesAt H m rs → DVs K H (rs.map fun r => V.ref r.r) ((rs.map Rl.d).map dR)
  | [], _ => .nil
  | r :: rs, h => .cons (.tup (SqT.of (h r (List.mem_cons_self ..)).1) (.cons (.str _) (.cons (.int _) (.cons (.int _) .nil)))) (rules_dv fun v hv => h v (List.mem_cons_of_mem _ hv))
end L2

namespace L2
open PySem PySem.Spec PyProof.Rows
/-! ### an unfolding under way, in the heap -/
structure UCore (H : Hp) (m x : Nat) (rs : List Rl) (s : US) (p qa : Addr) (sw : List SW) (H' : Hp) : Prop where
  same : Same H H'
  hp0 : H p = none
  hp : H' p = some (.lst (s.bs.map vN))
  npq : p ≠ qa
  hq0 : H qa = none
  hq : H' qa = some (.lst (sw.map fun w => V.ref w.1))
  st : StepsAt H' sw
  est : sw.map (·.2) = s.st
  good : Good m s.fx s.bs
  run : ∀ z, Run (rs.map Rl.d) s z → Run (rs.map Rl.d) ⟨x, beginBs m x, []⟩ z
  len : s.st.length + muS s.bs ≤ 254
theorem UCore.mono {H : Hp} {m x : Nat} {rs : List Rl} {s : US} {p qa : Addr} {sw : List SW} {H' H'' : Hp} (c : UCore H m x rs s p qa sw H') (e : Same H' H'') : UCore H m x rs s p qa sw H'' :=
  ⟨c.same.trans e, c.hp0, e _ _ c.hp, c.npq, c.hq0, e _ _ c.hq, c.st.same e, c.est, c.good, c.run, c.len⟩
theorem UCore.begin {H H' : Hp} {m x : Nat} {rs : List Rl} {p qa : Addr} (m7 : m ≤ 7) (hx : x < 2 ^ m) (e : Same H H') (hp0 : H p = none) (hp : H' p = some (.lst ((beginBs m x).map vN))) (hq : H' qa = none) : UCore H m x rs ⟨x, beginBs m x, []⟩ p qa [] (upd H' qa (.lst [])) := by
  have g := Good.begin hx
  refine ⟨e.trans (Same.new hq), hp0, Same.new hq _ _ hp, ne_of_none hp hq, e.none hq, upd_same, fun w h => absurd h List.not_mem_nil, rfl, g, fun z h => h, ?_⟩
  have e := g.sum
  have p7 := pow7 m7
  show 0 + muS (beginBs m x) ≤ 254
  unfold muS
  omega
theorem UCore.next {H : Hp} {m x : Nat} {rs : List Rl} {s : US} {p p' qa : Addr} {sw : List SW} {w : SW} {H1 H3 : Hp} {u : Nat × Nat} {us : List (Nat × Nat)} (c : UCore H m x rs s p qa sw H1) (hu : usesN (rs.map Rl.d) s.bs rs.length = u :: us) (ew : w.2 = (u.1, s.bs.getD u.2 0)) (hw : H1 w.1 = some (.tup [vN w.2.1, vN w.2.2]))
    (s3 : Same (upd H1 qa (.lst ((sw.map fun w => V.ref w.1) ++ [V.ref w.1]))) H3) (hp' : (upd H1 qa (.lst ((sw.map fun w => V.ref w.1) ++ [V.ref w.1]))) p' = none) (hp3 : H3 p' = some (.lst ((stepS (rs.map Rl.d) s u).bs.map vN))) :
    UCore H m x rs (stepS (rs.map Rl.d) s u) p' qa (sw ++ [w]) H3 ∧ muS (stepS (rs.map Rl.d) s u).bs < muS s.bs := by
  rw [← rd_len] at hu
  obtain ⟨g, mu⟩ := step_good (m := m) (rs := rs.map Rl.d) (s := s) (u := u) c.good (by rw [hu]; exact List.mem_cons_self ..)
  have sH : Same H (upd H1 qa (.lst ((sw.map fun w => V.ref w.1) ++ [V.ref w.1]))) := c.same.own c.hq0
  refine ⟨⟨sH.trans s3, sH.none hp', hp3, Ne.symm (ne_of_none upd_same hp'), c.hq0, ?_, ?_, ?_, g, fun z h => c.run z (Run.step hu h), ?_⟩, mu⟩
  · rw [s3 _ _ upd_same, List.map_append]; rfl
  · refine ((c.st.put c.hq).snoc ?_).same s3
    rw [upd_ne (ne_of hw c.hq (by intro z; cases z))]
    exact hw
  · rw [List.map_append, c.est]
    show s.st ++ [w.2] = s.st ++ [(u.1, s.bs.getD u.2 0)]
    rw [ew]
  · rw [step_st]
    have := c.len
    omega
end L2

namespace L2
open PySem PySem.Spec PyProof.Rows
/-! ### what follows -/
theorem find_hit {f : Nat → Bool} {bs : List Nat} {i b : Nat} (h0 : (bs.take i).find? f = none) (e : bs[i]? = some b) (h : f b = true) : bs.find? f = some b := by
  have hi : i < bs.length := (List.getElem?_eq_some_iff.mp e).1
  have s := split_at hi
  have ebd : bs.getD i 0 = b := by rw [List.getD_eq_getElem?_getD, e]; rfl
  rw [s, List.find?_append, h0, ebd, List.find?_cons, h]
  rfl
theorem find_miss {f : Nat → Bool} {bs : List Nat} {i b : Nat} (h0 : (bs.take i).find? f = none) (e : bs[i]? = some b) (h : f b ≠ true) : (bs.take (i + 1)).find? f = none := by
  rw [List.take_succ, e, List.find?_append, h0]
  show (none : Option Nat).or ([b].find? f) = none
  rw [List.find?_cons]
  cases z : f b with
  | true => exact absurd z h
  | false => rfl
/-- the blocks of an unfolding have no column of the set -/
theorem Run.apart {rs : List RD} {m x : Nat} {s : US} (hx : x < 2 ^ m) (h : Run rs ⟨x, beginBs m x, []⟩ s) {b : Nat} (hb : b ∈ s.bs) : x &&& b = 0 := by
  refine dis_iff.mpr fun k hk => ?_
  cases hbk : b.testBit k with
  | false => rfl
  | true =>
    obtain ⟨c, hc, hck⟩ := h.sub ⟨b, hb, hbk⟩
    have := (Good.begin hx).dis c hc
    rw [dis_iff.mp this k hk] at hck
    cases hck
section
variable {X : Cx} {K : PySem.W.Frag}
end
end L2

namespace L2
/-! ### the settled columns, found by books of two rows -/
open PySem PySem.Spec PyProof.Rows
/-- a statement whose comprehension's own name is called like a local that is let go -/
theorem ps_hide {X : Cx} {st : Stmt} {t : TS} (j : Nat) (h : PS (X.withN (X.N.set j "")) st t) : PS X st (fun D σ H => (∀ v, σ[j]? ≠ some (some v)) ∧ t { nx := fun σ' H' => (∀ v, σ'[j]? ≠ some (some v)) ∧ D.nx σ' H', rt := fun _ _ => False, bk := fun _ _ => False, ct := fun _ _ => False } σ H) := by
  intro pins s σ H D I ⟨hd, hw⟩
  have I' : Inv (X.withN (X.N.set j "")) pins σ H s := by
    refine ⟨I.ok.withN _, I.os, I.bare, I.base, ?_, I.cell, I.free, I.freeC, I.pin, I.hok, by rw [I.len]; simp⟩
    obtain ⟨m, h1, h2⟩ := I.loc
    refine ⟨m, h1, fun i x v e1 e2 e3 => ?_⟩
    by_cases hj : j = i
    · subst hj; exact absurd e2 (hd v)
    · exact h2 i x v (by rwa [show (X.withN (X.N.set j "")).N = X.N.set j "" from rfl, List.getElem?_set_ne hj] at e1) e2 e3
  refine thn (h pins s σ H _ I' hw) fun f s1 q => ?_
  cases f with
  | next =>
    obtain ⟨σ', H', J, hd', q⟩ := q
    refine ⟨σ', H', ⟨J.ok.ofN, J.os, J.bare, J.base, ?_, J.cell, J.free, J.freeC, J.pin, J.hok, by have := J.len; rw [this]; simp⟩, q⟩
    obtain ⟨m, h1, h2⟩ := J.loc
    refine ⟨m, h1, fun i x v e1 e2 e3 => ?_⟩
    by_cases hj : j = i
    · subst hj; exact absurd e2 (hd' v)
    · exact h2 i x v (by rwa [show (X.withN (X.N.set j "")).N = X.N.set j "" from rfl, List.getElem?_set_ne hj]) e2 e3
  | brk => obtain ⟨_, _, _, q⟩ := q; exact q.elim
  | cont => obtain ⟨_, _, _, q⟩ := q; exact q.elim
  | ret v => obtain ⟨_, _, _, _, _, q⟩ := q; exact q.elim
end L2

namespace L2
/-! ### what follows, told by the sets whose books keep the rules -/
theorem Run.apart0 {rs : List RD} {m x : Nat} {s : US} (hx : x < 2 ^ m) (h : Run rs ⟨x, beginBs m x, []⟩ s) {b : Nat} (hb : b ∈ s.bs) : x &&& b = 0 := by
  refine dis_iff.mpr fun k hk => ?_
  cases hbk : b.testBit k with
  | false => rfl
  | true =>
    obtain ⟨c, hc, hck⟩ := h.sub ⟨b, hb, hbk⟩
    have := (Good.begin hx).dis c hc
    rw [dis_iff.mp this k hk] at hck
    cases hck
def KeptS (m : Nat) (rs : List RD) (d : Nat) : Prop := 1 ≤ d ∧ d < 2 ^ m ∧ ∀ r ∈ rs, usB r d = false
def FolP (m : Nat) (rs : List RD) (st : Bool) (x y : Nat) : Prop := ∀ d, KeptS m rs d → usB (st, x, y) d = false
def HasB (a k : Nat) : Prop := a.testBit k = true
theorem bit_of_ne {a : Nat} (h : a ≠ 0) : ∃ k, HasB a k := by
  by_cases z : ∃ k, HasB a k
  · exact z
  · exfalso
    apply h
    refine Nat.eq_of_testBit_eq fun k => ?_
    rw [Nat.zero_testBit]
    cases e : a.testBit k with
    | false => rfl
    | true => exact absurd ⟨k, e⟩ z
theorem hasb_and (a b k : Nat) : HasB (a &&& b) k ↔ HasB a k ∧ HasB b k := by unfold HasB; rw [Nat.testBit_and, Bool.and_eq_true]
theorem hasb_or (a b k : Nat) : HasB (a ||| b) k ↔ HasB a k ∨ HasB b k := by unfold HasB; rw [Nat.testBit_or, Bool.or_eq_true]
theorem hasb_full {m x : Nat} (hx : x < 2 ^ m) (k : Nat) : HasB (2 ^ m - 1 - x) k ↔ k < m ∧ ¬ HasB x k := by
  unfold HasB
  rw [show 2 ^ m - 1 - x = 2 ^ m - (x + 1) by omega, Nat.testBit_two_pow_sub_succ hx, Bool.and_eq_true, decide_eq_true_iff]
  cases x.testBit k <;> simp
theorem hasb_lt {m a k : Nat} (ha : a < 2 ^ m) (h : HasB a k) : k < m := by
  apply Nat.lt_of_not_le
  intro le
  have : a.testBit k = false := Nat.testBit_lt_two_pow (Nat.lt_of_lt_of_le ha (Nat.pow_le_pow_right (by decide) le))
  unfold HasB at h
  rw [this] at h; cases h
theorem and_ne {a b : Nat} : a &&& b ≠ 0 ↔ ∃ k, HasB a k ∧ HasB b k := by
  constructor
  · intro h
    obtain ⟨k, hk⟩ := bit_of_ne h
    exact ⟨k, (hasb_and a b k).mp hk⟩
  · rintro ⟨k, h1, h2⟩ e
    have := (hasb_and a b k).mpr ⟨h1, h2⟩
    unfold HasB at this
    rw [e, Nat.zero_testBit] at this
    cases this
theorem Run.kept {rs : List RD} {m x : Nat} {s : US} (hx : x < 2 ^ m) (R : Run rs ⟨x, beginBs m x, []⟩ s) {b : Nat} (hb : b ∈ s.bs) : KeptS m rs b := by
  obtain ⟨g, un⟩ := R.good (m := m) (Good.begin hx)
  exact ⟨g.pos b hb, g.lt hb, fun r hr => uses_nil un hr hb⟩
theorem Run.holds {rs : List RD} {m x d : Nat} {s : US} (hx : x < 2 ^ m) (R : Run rs ⟨x, beginBs m x, []⟩ s) (hd : KeptS m rs d) (ha : ∀ k, HasB d k → ¬ HasB x k) : ∃ b ∈ s.bs, SubN d b := by
  have h0 := hd.1
  refine R.keep (by omega) hd.2.2 (begin_sub hx hd.2.1 (by omega) ?_)
  by_cases z : d &&& x = 0
  · exact z
  · obtain ⟨k, a, b⟩ := and_ne.mp z
    exact absurd b (ha k a)
end L2
namespace L2
/-! ### the rules of following -/
section
variable {m : Nat} {rs : List RD} {x y z v : Nat}
end
open PySem PySem.Spec PyProof.Rows
theorem RulesAt.put {H : Hp} {m : Nat} {rs : List Rl} {q : Addr} {xs ys : List V} (h : RulesAt H m rs) (hq : H q = some (.lst xs)) : RulesAt (upd H q (.lst ys)) m rs := fun r hr => by
  refine ⟨?_, (h r hr).2⟩
  have h1 := (h r hr).1
  unfold RuleAt at h1 ⊢
  rw [upd_ne (ne_of h1 hq (by intro z; cases z))]
  exact h1
end L2

namespace L2
/-! ### which sets are blocks; more rules -/
def Apart (x d : Nat) : Prop := ∀ k, HasB d k → ¬ HasB x k
theorem apart_of {x b : Nat} (h : x &&& b = 0) : Apart x b := fun k h1 h2 => by
  have := dis_iff.mp h k h2
  unfold HasB at h1
  rw [this] at h1; cases h1
theorem sub_eq {a b : Nat} (h1 : SubN a b) (h2 : SubN b a) : a = b := Nat.eq_of_testBit_eq fun k => by
  rw [Bool.eq_iff_iff]
  exact ⟨h1 k, h2 k⟩
theorem pw_ne : ∀ {bs : List Nat}, (bs.Pairwise fun a b => a &&& b = 0) → ∀ {a b}, a ∈ bs → b ∈ bs → a ≠ b → a &&& b = 0
  | c :: bs, h, a, b, ha, hb, hn => by
    rw [List.pairwise_cons] at h
    rcases List.mem_cons.mp ha with rfl | ha'
    · rcases List.mem_cons.mp hb with rfl | hb'
      · exact absurd rfl hn
      · exact h.1 b hb'
    · rcases List.mem_cons.mp hb with rfl | hb'
      · exact dis_comm (h.1 a ha')
      · exact pw_ne h.2 ha' hb' hn
theorem Good.nodup {m fx : Nat} {bs : List Nat} (g : Good m fx bs) : bs.Nodup := by
  refine g.pw.imp_of_mem fun {a b} ha hb h e => ?_
  subst e
  rw [Nat.and_self] at h
  have := g.pos a ha
  omega
structure Blocks (m : Nat) (rs : List RD) (x fx : Nat) (bs : List Nat) : Prop where
  good : Good m fx bs
  kept : ∀ b ∈ bs, KeptS m rs b
  apart : ∀ b ∈ bs, Apart x b
  holds : ∀ d, KeptS m rs d → Apart x d → ∃ b ∈ bs, SubN d b
theorem Run.blocks {rs : List RD} {m x : Nat} {s : US} (hx : x < 2 ^ m) (R : Run rs ⟨x, beginBs m x, []⟩ s) : Blocks m rs x s.fx s.bs :=
  ⟨(R.good (m := m) (Good.begin hx)).1, fun b hb => R.kept hx hb, fun b hb => apart_of (R.apart0 hx hb), fun d hd ha => R.holds hx hd ha⟩
theorem Blocks.one {m x fx : Nat} {rs : List RD} {bs : List Nat} (B : Blocks m rs x fx bs) {b c : Nat} (hb : b ∈ bs) (hc : c ∈ bs) (h : SubN b c) : b = c := by
  by_cases e : b = c
  · exact e
  · exfalso
    have := pw_ne B.good.pw hb hc e
    obtain ⟨k, hk⟩ := bit_of_ne (a := b) (by have := B.good.pos b hb; omega)
    have h2 := dis_iff.mp this k hk
    rw [h k hk] at h2; cases h2
theorem Blocks.mem {m x fx : Nat} {rs : List RD} {bs : List Nat} (B : Blocks m rs x fx bs) {b : Nat} : b ∈ bs ↔ KeptS m rs b ∧ Apart x b ∧ ∀ d, KeptS m rs d → Apart x d → SubN b d → SubN d b := by
  constructor
  · intro hb
    refine ⟨B.kept b hb, B.apart b hb, fun d hd ha hs => ?_⟩
    obtain ⟨c, hc, hs2⟩ := B.holds d hd ha
    have e := B.one hb hc fun k hk => hs2 k (hs k hk)
    rw [e]; exact hs2
  · rintro ⟨hk, ha, hm⟩
    obtain ⟨c, hc, hs⟩ := B.holds b hk ha
    have := hm c (B.kept c hc) (B.apart c hc) hs
    rw [sub_eq hs this]; exact hc
theorem Blocks.fix {m x fx : Nat} {rs : List RD} {bs : List Nat} (B : Blocks m rs x fx bs) {k : Nat} : HasB fx k ↔ k < m ∧ ∀ d, KeptS m rs d → Apart x d → ¬ HasB d k := by
  unfold HasB
  rw [B.good.col]
  constructor
  · rintro ⟨h1, h2⟩
    refine ⟨h1, fun d hd ha hk => ?_⟩
    obtain ⟨b, hb, hs⟩ := B.holds d hd ha
    have := hs k hk
    rw [h2 b hb] at this; cases this
  · rintro ⟨h1, h2⟩
    refine ⟨h1, fun b hb => ?_⟩
    cases e : b.testBit k with
    | false => rfl
    | true => exact absurd e (h2 b (B.kept b hb) (B.apart b hb))
theorem Blocks.same {m x fx fx' : Nat} {rs rs' : List RD} {bs bs' : List Nat} (B : Blocks m rs x fx bs) (B' : Blocks m rs' x fx' bs') (h : ∀ d, KeptS m rs d ↔ KeptS m rs' d) : fx = fx' ∧ bs.Perm bs' := by
  constructor
  · refine Nat.eq_of_testBit_eq fun k => ?_
    rw [Bool.eq_iff_iff]
    show HasB fx k ↔ HasB fx' k
    rw [B.fix, B'.fix]
    exact ⟨fun ⟨a, b⟩ => ⟨a, fun d hd => b d ((h d).mpr hd)⟩, fun ⟨a, b⟩ => ⟨a, fun d hd => b d ((h d).mp hd)⟩⟩
  · rw [List.perm_ext_iff_of_nodup B.good.nodup B'.good.nodup]
    intro b
    rw [B.mem, B'.mem, h b]
    exact ⟨fun ⟨a, c, e⟩ => ⟨a, c, fun d hd => e d ((h d).mpr hd)⟩, fun ⟨a, c, e⟩ => ⟨a, c, fun d hd => e d ((h d).mp hd)⟩⟩
theorem Blocks.more {m x fx fx' : Nat} {rs rs' : List RD} {bs bs' : List Nat} (B : Blocks m rs x fx bs) (B' : Blocks m rs' x fx' bs') (h : ∀ d, KeptS m rs' d → KeptS m rs d) : fx &&& fx' = fx := by
  refine Nat.eq_of_testBit_eq fun k => ?_
  rw [Bool.eq_iff_iff]
  show HasB (fx &&& fx') k ↔ HasB fx k
  rw [hasb_and]
  refine ⟨fun z => z.1, fun z => ⟨z, ?_⟩⟩
  obtain ⟨a, b⟩ := B.fix.mp z
  exact B'.fix.mpr ⟨a, fun d hd => b d (h d hd)⟩
end L2
namespace L2
theorem few_with {k : Nat} {bs : List Nat} (h : bs.Pairwise fun a b => a &&& b = 0) : (bs.filter fun b => b.testBit k).length ≤ 1 := by
  have hp : (bs.filter fun b => b.testBit k).Pairwise fun a b => a &&& b = 0 := h.sublist List.filter_sublist
  have hm : ∀ b ∈ bs.filter fun b => b.testBit k, b.testBit k = true := fun b hb => (List.mem_filter.mp hb).2
  generalize bs.filter (fun b => b.testBit k) = l at hp hm
  match l, hp, hm with
  | [], _, _ => exact Nat.zero_le _
  | [_], _, _ => exact Nat.le_refl _
  | a :: b :: l, hp, hm =>
    exfalso
    rw [List.pairwise_cons] at hp
    have := dis_iff.mp (hp.1 b (List.mem_cons_self ..)) k (hm a (List.mem_cons_self ..))
    rw [hm b (List.mem_cons_of_mem _ (List.mem_cons_self ..))] at this
    cases this
theorem few_blocks : ∀ (m : Nat) {bs : List Nat}, (bs.Pairwise fun a b => a &&& b = 0) → (∀ b ∈ bs, 0 < b) → (∀ b ∈ bs, b < 2 ^ m) → bs.length ≤ m
  | 0, bs, _, h0, h1 => by
    cases bs with
    | nil => exact Nat.le_refl _
    | cons a l =>
      have := h0 a (List.mem_cons_self ..)
      have := h1 a (List.mem_cons_self ..)
      omega
  | m + 1, bs, hp, h0, h1 => by
    have f := few_with (k := m) hp
    have g := few_blocks m (bs := bs.filter fun b => !b.testBit m) (hp.sublist List.filter_sublist) (fun b hb => h0 b (List.mem_filter.mp hb).1) (fun b hb => by
      obtain ⟨h2, h3⟩ := List.mem_filter.mp hb
      have h4 := h1 b h2
      apply Nat.lt_of_not_le
      intro le
      have : b.testBit m = true := by
        rw [Nat.testBit_eq_decide_div_mod_eq]
        have : b / 2 ^ m = 1 := by
          have p := Nat.two_pow_pos m
          rw [Nat.pow_succ] at h4
          exact Nat.div_eq_of_lt_le (by omega) (by omega)
        rw [this]; rfl
      rw [this] at h3; cases h3)
    have e : bs.length = (bs.filter fun b => b.testBit m).length + (bs.filter fun b => !b.testBit m).length := by
      have := List.length_eq_countP_add_countP (fun b : Nat => b.testBit m) (l := bs)
      rw [List.countP_eq_length_filter, List.countP_eq_length_filter] at this
      rw [this]
      congr 2
      refine List.filter_congr fun b _ => ?_
      cases b.testBit m <;> rfl
    omega
theorem Good.few {m fx : Nat} {bs : List Nat} (g : Good m fx bs) : bs.length ≤ m := few_blocks m g.pw g.pos fun b hb => g.lt hb
open PySem PySem.Spec PyProof.Rows
structure R35 (H' : Hp) (m : Nat) (rl ll : Addr) (rs : List Rl) (i : Nat) (e : Rl) (sb : Bool) : Prop where
  m1 : 1 ≤ m
  m7 : m ≤ 7
  hrl : H' rl = some (.lst (rs.map fun r => V.ref r.r))
  hRs : RulesAt H' m rs
  lr : rs.length ≤ 60
  hll : H' ll = some (.lst ((rs.take i ++ [e] ++ rs.drop i).map fun r => V.ref r.r))
  he : RuleAt H' e.r e.st e.x e.y ∧ e.x < 2 ^ m ∧ e.y < 2 ^ m
  sb : sb = true ↔ FolP m (rs.map Rl.d) e.st e.x e.y
theorem R35.same {H H' : Hp} {m i : Nat} {rl ll : Addr} {rs : List Rl} {e : Rl} {sb : Bool} (R : R35 H m rl ll rs i e sb) (s : Same H H') : R35 H' m rl ll rs i e sb :=
  ⟨R.m1, R.m7, s _ _ R.hrl, R.hRs.same s, R.lr, s _ _ R.hll, ⟨s _ _ R.he.1, R.he.2⟩, R.sb⟩
end L2

namespace L2
/-! ### any steps lead to the same blocks -/
structure DStep (m : Nat) (rs : List RD) (x fx : Nat) (bs : List Nat) : Prop where
  good : Good m fx bs
  apart : ∀ b ∈ bs, Apart x b
  holds : ∀ d, KeptS m rs d → Apart x d → ∃ b ∈ bs, SubN d b
theorem DStep.begin {m x : Nat} {rs : List RD} (hx : x < 2 ^ m) : DStep m rs x x (beginBs m x) := by
  refine ⟨Good.begin hx, fun b hb => apart_of ((Good.begin hx).dis b hb), fun d hd ha => ?_⟩
  have h1 := hd.1
  refine begin_sub hx hd.2.1 (by omega) ?_
  by_cases z : d &&& x = 0
  · exact z
  · obtain ⟨k, a, b⟩ := and_ne.mp z
    exact absurd b (ha k a)
theorem DStep.use {m x fx : Nat} {rs : List RD} {bs : List Nat} (D : DStep m rs x fx bs) {u : Nat × Nat} (hu : u ∈ usesN rs bs rs.length) : DStep m rs x (behindFx (rdAt rs u.1).1 (rdAt rs u.1).2.2 fx bs u.2) (behindBs (rdAt rs u.1).1 (rdAt rs u.1).2.2 bs u.2) := by
  obtain ⟨h1, h2, h3⟩ := mem_usesN hu
  refine ⟨(D.good.use h2 h3).1, fun b hb k hk hx => ?_, fun d hd ha => ?_⟩
  · obtain ⟨c, hc, hck⟩ := behind_sub h2 ⟨b, hb, hk⟩
    exact D.apart c hc k hck hx
  · have h0 := hd.1
    exact keep_in h2 h3 (hd.2.2 _ (rd_mem h1)) (by omega) (D.holds d hd ha)
theorem DStep.done {m x fx : Nat} {rs : List RD} {bs : List Nat} (D : DStep m rs x fx bs) (un : usesN rs bs rs.length = []) : Blocks m rs x fx bs :=
  ⟨D.good, fun b hb => ⟨D.good.pos b hb, D.good.lt hb, fun r hr => uses_nil un hr hb⟩, D.apart, D.holds⟩
theorem Blocks.own {m x fx : Nat} {rs : List RD} {bs : List Nat} (hx : x < 2 ^ m) (B : Blocks m rs x fx bs) : fx &&& x = x := by
  refine Nat.eq_of_testBit_eq fun k => ?_
  rw [Bool.eq_iff_iff]
  show HasB (fx &&& x) k ↔ HasB x k
  rw [hasb_and]
  exact ⟨fun z => z.2, fun z => ⟨B.fix.mpr ⟨hasb_lt hx z, fun d _ ha hd => ha k hd z⟩, z⟩⟩
open PySem PySem.Spec PyProof.Rows
/-- uses told with the rule itself -/
def UAt (H : Hp) (rs : List Rl) (uw : List SW) : Prop := ∀ w ∈ uw, ∃ r : Rl, rs[w.2.1]? = some r ∧ H w.1 = some (.tup [.ref r.r, vN w.2.2])
theorem UAt.same {H H' : Hp} {rs : List Rl} {uw : List SW} (h : UAt H rs uw) (e : Same H H') : UAt H' rs uw := fun w hw => by
  obtain ⟨r, h1, h2⟩ := h w hw
  exact ⟨r, h1, e _ _ h2⟩
theorem UAt.snoc {H : Hp} {rs : List Rl} {uw : List SW} {w : SW} (h : UAt H rs uw) (hw : ∃ r : Rl, rs[w.2.1]? = some r ∧ H w.1 = some (.tup [.ref r.r, vN w.2.2])) : UAt H rs (uw ++ [w]) := fun v hv => by
  rcases List.mem_append.mp hv with hv | hv
  · exact h v hv
  · rw [List.mem_singleton.mp hv]; exact hw
theorem UAt.append {H : Hp} {rs : List Rl} {uw vw : List SW} (h : UAt H rs uw) (h' : UAt H rs vw) : UAt H rs (uw ++ vw) := fun v hv => by
  rcases List.mem_append.mp hv with hv | hv
  · exact h v hv
  · exact h' v hv
theorem ints_dv {K : PySem.W.Frag} {H : Hp} : ∀ ms : List Int, DVs K H (ms.map V.int) (ms.map PyData.int)
  | [] => .nil
  | m :: ms => .cons (.int m) (ints_dv ms)
theorem sameI (a b : Int) : same (.int a) (.int b) = decide (a = b) := by
  by_cases h : a = b <;> simp [same, h]
end L2

namespace L2
/-! ### covers -/
def colBit (x c : Nat) : Nat := x - (x &&& 2 ^ c)
structure LeastP (m : Nat) (rs ls : List RD) : Prop where
  kept : ∀ d, KeptS m rs d ↔ KeptS m ls d
  len : ls.length = rs.length
  each : ∀ (i : Nat) (l r : RD), ls[i]? = some l → rs[i]? = some r → l.1 = r.1 ∧ l.2.2 = r.2.2 ∧ (∀ k, HasB l.2.1 k → HasB r.2.1 k) ∧ (l.1 = false → l = r) ∧ (l.1 = true → ∀ c, HasB l.2.1 c → ¬ FolP m rs true (colBit l.2.1 c) l.2.2)
structure NeedP (m : Nat) (rs cs : List RD) : Prop where
  kept : ∀ d, KeptS m rs d ↔ KeptS m cs d
  sub : cs.Sublist rs
  each : ∀ (i : Nat) (r : RD), cs[i]? = some r → ¬ FolP m (cs.eraseIdx i) r.1 r.2.1 r.2.2
open PySem PySem.Spec PyProof.Rows
theorem cols_has : ∀ a, a < 128 → ∀ k, k < 8 → (k ∈ colsN a ↔ a.testBit k = true) := by decide +kernel
theorem cols_mem {a : Nat} (ha : a < 128) (k : Nat) : k ∈ colsN a ↔ HasB a k := by
  by_cases hk : k < 8
  · exact cols_has a ha k hk
  · constructor
    · intro h
      have h1 := List.mem_range.mp (List.mem_filter.mp h).1
      have h2 : bitsN a ≤ 7 := by
        unfold bitsN Builtin.Int.intBits
        split
        · omega
        · rename_i z
          have h0 : a ≠ 0 := by intro e; subst e; exact z rfl
          have : a.log2 < 7 := (Nat.log2_lt h0).mpr ha
          show (a : Int).natAbs.log2 + 1 ≤ 7
          rw [Int.natAbs_natCast]
          omega
      omega
    · intro h
      have := hasb_lt (m := 7) ha h
      omega
/-- the least lefts under way -/
structure LCore (H : Hp) (m : Nat) (rs ls : List Rl) (p : Addr) (H' : Hp) : Prop where
  same : Same H H'
  hp0 : H p = none
  hp : H' p = some (.lst (ls.map fun r => V.ref r.r))
  at_ : RulesAt H' m ls
  len : ls.length = rs.length
  kept : ∀ d, KeptS m (rs.map Rl.d) d ↔ KeptS m (ls.map Rl.d) d
theorem LCore.mono {H H' H'' : Hp} {m : Nat} {rs ls : List Rl} {p : Addr} (c : LCore H m rs ls p H') (e : Same H' H'') : LCore H m rs ls p H'' :=
  ⟨c.same.trans e, c.hp0, e _ _ c.hp, c.at_.same e, c.len, c.kept⟩
end L2

namespace L2
open PySem PySem.Spec PyProof.Rows
structure PR (K : PySem.W.Frag) (H : Hp) (st : Addr) (ns : List Int) (m : Nat) (g : Addr) (rs : List Rl) (k : Nat) (H' : Hp) : Prop where
  at_ : RulesAt H' m rs
  hg : H' g = some (.lst (rs.map fun r => V.ref r.r))
  S : STF K H' st ns k
  B : But st H H'
  hg0 : H g = none
  hgs : g ≠ st
end L2

namespace L2
open PySem PySem.Spec PyProof.Rows
/-! ### sorted(.., reverse=True) of what stands so already: one run, of any length -/
section
variable {prog : Program} {w : World} {A : Around} {E : Value → Shared → Prop} {s : Shared} {a₀ : Array Keyed} {κ : KeyKind}
end
section
variable {X : Cx} {K : PySem.W.Frag}
end
end L2

namespace L2
open PySem PySem.Spec PyProof.Rows
/-! ### a rule in a list of rules; covers say the same (k42) -/
section
variable {X : Cx} {K : PySem.W.Frag}
end
end L2

namespace L2
open PySem PySem.Spec PyProof.Rows
/-! ### all blocks at once -/
/-! ### covers, rule by rule -/
end L2

namespace L2
open PySem PySem.Spec PyProof.Rows
/-! ### two lists walked side by side -/
section
variable {X : Cx} {pins : List (Addr × Obj)} {σ : St} {H : Hp} {s : Shared}
end
end L2

namespace L2
open PySem PySem.Spec PyProof.Rows
/-! ### covers told exactly -/
structure LCoreX (H : Hp) (m n : Nat) (ls : List Rl) (p : Addr) (H' : Hp) : Prop where
  same : Same H H'
  hp0 : H p = none
  hp : H' p = some (.lst (ls.map fun r => V.ref r.r))
  at_ : RulesAt H' m ls
  len : ls.length = n
theorem LCoreX.mono {H H' H'' : Hp} {m n : Nat} {ls : List Rl} {p : Addr} (c : LCoreX H m n ls p H') (e : Same H' H'') : LCoreX H m n ls p H'' :=
  ⟨c.same.trans e, c.hp0, e _ _ c.hp, c.at_.same e, c.len⟩
/-- a rule put at a place -/
theorem LCoreX.put {H H' : Hp} {m n i : Nat} {ls : List Rl} {p sp : Addr} {st : Bool} {x y : Nat} (c : LCoreX H m n ls p H') (hsp : RuleAt H' sp st x y) (hx : x < 2 ^ m) (hy : y < 2 ^ m) : LCoreX H m n (ls.set i ⟨sp, st, x, y⟩) p (upd H' p (.lst ((ls.set i ⟨sp, st, x, y⟩).map fun r => V.ref r.r))) := by
  refine ⟨c.same.own c.hp0, c.hp0, upd_same, fun r hr => ?_, by rw [List.length_set]; exact c.len⟩
  rcases List.mem_or_eq_of_mem_set hr with h | h
  · exact (c.at_.put c.hp) r h
  · rw [h]
    refine ⟨?_, hx, hy⟩
    show upd _ _ _ sp = _
    rw [upd_ne (ne_of hsp c.hp (by intro z; cases z))]
    exact hsp
end L2

namespace L2
open PySem PySem.Spec PyProof.Rows
end L2

namespace L2
open PySem PySem.Spec PyProof.Rows
/-! ### the laws of cuts: their rules and parts; a cut in two -/
section
variable {K : PySem.W.Frag} {H H1 H2 : Hp} {st g p : Addr} {ns : List Int} {m k k' : Nat} {rs rs' : List Rl} {o : HO} {ys : List V}
theorem PR.take (R : PR K H st ns m g rs k H1) (S : STF K H2 st ns k') (B : But st H1 H2) : PR K H st ns m g rs k' H2 :=
  ⟨fun r hr => ⟨stf_tup R.S B (R.at_ r hr).1, (R.at_ r hr).2⟩, B _ _ R.hg R.hgs, S, R.B.trans B, R.hg0, R.hgs⟩
theorem PR.new (R : PR K H st ns m g rs k H1) (hp : H1 p = none) : PR K H st ns m g rs k (upd H1 p o) :=
  ⟨R.at_.same (Same.new hp), Same.new hp _ _ R.hg, R.S.new hp, R.B.trans (But.new hp), R.hg0, R.hgs⟩
theorem PR.put (R : PR K H st ns m g rs k H1) (h : RulesAt H1 m rs') (e : ys = rs'.map fun r => V.ref r.r) : PR K H st ns m g rs' k (upd H1 g (.lst ys)) :=
  ⟨h.put R.hg, by rw [upd_same, e], R.S.put R.hg R.hgs, R.B.own R.hg0, R.hg0, R.hgs⟩
end
def spThin (K : PySem.W.Frag) : Sp := fun vs H Q _ => ∃ (st : Addr) (ns : List Int) (k m : Nat), vs = [.ref st, vN m] ∧ STF K H st ns k ∧ k ≤ 900000 ∧ ns.length ≤ 63 ∧ 1 ≤ m ∧ m ≤ 7 ∧
  ∀ (r k' : Nat) (H' : Hp), r < 2 ^ m → k' ≤ k + 4 → STF K H' st ns k' → But st H H' → Q (vN r) H'
def spTRules (K : PySem.W.Frag) : Sp := fun vs H Q _ => ∃ (st : Addr) (ns : List Int) (k m : Nat), vs = [.ref st, vN m] ∧ STF K H st ns k ∧ k ≤ 1000 ∧ ns.length ≤ 63 ∧ 1 ≤ m ∧ m ≤ 7 ∧
  ∀ (rs : List Rl) (p : Addr) (k' : Nat) (H' : Hp), PR K H st ns m p rs k' H' → rs.length ≤ 12 → k' ≤ k + 200 → Q (.ref p) H'
theorem bits_eq {a b : Nat} (h : ∀ k, HasB a k ↔ HasB b k) : a = b := Nat.eq_of_testBit_eq fun k => by
  rw [Bool.eq_iff_iff]; exact h k
theorem hasb_all {m : Nat} (k : Nat) : HasB (2 ^ m - 1) k ↔ k < m := by
  have h0 : (0 : Nat) < 2 ^ m := Nat.two_pow_pos m
  have h := hasb_full h0 k
  rw [Nat.sub_zero] at h
  rw [h]
  exact ⟨fun z => z.1, fun z => ⟨z, fun w => by unfold HasB at w; rw [Nat.zero_testBit] at w; cases w⟩⟩
/-- a block with columns out of the one part and out of the other -/
def tornB (x y b : Nat) : Bool := !decide (b &&& x = b) && !decide (b &&& y = b)
def CutV (H : Hp) (x y : Nat) (s : US) (t : Addr) : Prop :=
  (∃ b, s.bs.find? (tornB x y) = some b ∧ H t = some (.tup [.str "unsafe", vN b])) ∨
  (s.bs.find? (tornB x y) = none ∧ ∃ (q : Addr) (sw : List SW), H q = some (.lst (sw.map fun w => V.ref w.1)) ∧ StepsAt H sw ∧ sw.map (·.2) = s.st ∧ sw.length ≤ 300 ∧ H t = some (.tup [.str "safe", .ref q]))
theorem CutV.same {H H' : Hp} {x y : Nat} {s : US} {t : Addr} (h : CutV H x y s t) (e : Same H H') : CutV H' x y s t := by
  rcases h with ⟨b, h1, h2⟩ | ⟨h1, q, sw, h2, h3, h4, h5, h6⟩
  · exact .inl ⟨b, h1, e _ _ h2⟩
  · exact .inr ⟨h1, q, sw, e _ _ h2, h3.same e, h4, h5, e _ _ h6⟩
end L2

namespace L2
open PySem PySem.Spec PyProof.Rows
section
variable {prog : Program} {w : World} {A : Around} {E : Value → Shared → Prop} {s : Shared}
/-- enumerate(xs, start=k): what the type's own making gives -/
theorem new_enumS {l : Addr} {items : Array Value} {k : Int} {t : Tok} {R : PySem.Fin → Shared → Prop} (hL : s.heap.IsList l items) (fits : Builtin.SmallTypes.fitsIndex k = true)
    (h : R (.done (.ret (.ref (s.heap.push { cls := .type "list_iterator", data := .fields #[.ref l, .int 0 0] }).objs.size))) { s with heap := (s.heap.push { cls := .type "list_iterator", data := .fields #[.ref l, .int 0 0] }).push { cls := .type "enumerate", data := .fields #[.none, .bool false, .ref s.heap.objs.size, rawInt k, .none, .none] } }) :
    wpAny (model prog w) A (Builtin.«enumerate.__new__» ⟨[.type "enumerate", .ref l], [(Str.ofString "start", .int k t)]⟩) R E s := by
  have hsub := PySem.sub_enumerate
  unfold Builtin.«enumerate.__new__»
  wp_walk using wpAny_pyIter_list hL
  refine wpAny_stack_any fun st => wpAny_pure ?_
  split
  case h_1 c _ _ _ _ _ => cases (c == Value.type "enumerate") <;> (wp_walk using wpAny_pyIter_list hL; exact h)
  case h_2 => wp_walk using wpAny_pyIter_list hL; exact h
theorem call_enumS {l : Addr} {items : Array Value} {k : Int} {t : Tok} {Q : Value → Shared → Prop} (hL : s.heap.IsList l items) (fits : Builtin.SmallTypes.fitsIndex k = true)
    (h : Q (.ref (s.heap.push { cls := .type "list_iterator", data := .fields #[.ref l, .int 0 0] }).objs.size) { s with heap := (s.heap.push { cls := .type "list_iterator", data := .fields #[.ref l, .int 0 0] }).push { cls := .type "enumerate", data := .fields #[.none, .bool false, .ref s.heap.objs.size, rawInt k, .none, .none] } }) :
    wpAny (model prog w) A (call (.type "enumerate") [.ref l] [(Str.ofString "start", .int k t)]) Q E s := by
  refine wpAny_call ?_
  refine codeAny_of_tree ?_
  wp_walk
  have C := F.called_enumerate
  obtain ⟨c, tl, hm⟩ := C.mro
  have n1 := C.notType
  have n2 := C.canCreate
  have n3 := C.made
  have n4 := C.sub
  have chk : checkTypeCall "enumerate" ⟨[.ref l], [(Str.ofString "start", .int k t)]⟩ = pure () := by kernel_rfl
  constructor
  · exact Code.quiet_builtin _ (by decide +kernel)
  refine codeAny_builtin F.entry_type_call ?_
  unfold Builtin.«type.__call__»
  wp_walk
  have chn : checkBuiltinCall "enumerate.__new__" ⟨[.type "enumerate", .ref l], [(Str.ofString "start", .int k t)]⟩ = pure () := by kernel_rfl
  refine codeAny_call_builtin C.plain F.entry_enumerate_new (wpAny_of_eq chn (new_enumS hL fits ?_))
  have ty : Shared.TypeIs { s with heap := (s.heap.push { cls := .type "list_iterator", data := .fields #[.ref l, .int 0 0] }).push { cls := .type "enumerate", data := .fields #[.none, .bool false, .ref s.heap.objs.size, rawInt k, .none, .none] } } (.ref (s.heap.push { cls := .type "list_iterator", data := .fields #[.ref l, .int 0 0] }).objs.size) "enumerate" := ⟨_, Heap.get?_push_size _ rfl, rfl⟩
  have li := C.init.lookup
  have bi := C.init.bind (.ref (s.heap.push { cls := .type "list_iterator", data := .fields #[.ref l, .int 0 0] }).objs.size)
  wp_walk
  have ok : argsOk "object.__init__" ⟨[.ref (s.heap.push { cls := .type "list_iterator", data := .fields #[.ref l, .int 0 0] }).objs.size, .ref l], [(Str.ofString "start", .int k t)]⟩ := by
    unfold argsOk
    kernel_rfl
  refine codeAny_call_builtin C.init.plain F.entry_object_init (C.init.check _ _ _ _ _ _ _ _ ty ok ?_)
  unfold Builtin.«object.__init__»
  wp_walk
  exact h
theorem Draws.later {prog : Program} {w : World} {A : Around} {it : Addr} {fp : List Addr} {n : Nat} {P : Nat → Value → Prop} {St : Nat → Heap → Prop} (D : Draws prog w A it fp n P St) (k : Nat) : Draws prog w A it fp (n + k) (fun i x => ∃ j, i = j + k ∧ P j x) (fun i h => ∃ j, i = j + k ∧ St j h) where
  live := fun i h ⟨j, _, st⟩ => D.live j h st
  frame := fun i h h' ⟨j, e, st⟩ hk => ⟨j, e, D.frame j h h' st hk⟩
  item := fun i s Q E hi ⟨j, e, st⟩ hQ => D.item j s Q E (by omega) st fun x h' tk hP hS hb => hQ x h' tk ⟨j, e, hP⟩ ⟨j + 1, by omega, hS⟩ hb
  done := fun s Q E ⟨j, e, st⟩ hE => by
    have ej : j = n := by omega
    subst ej
    exact D.done s Q E st hE
end
section
variable {X : Cx} {pins : List (Addr × Obj)} {σ : St} {H : Hp} {s : Shared}
def ItS (K : PySem.W.Frag) (l : Addr) (k : Nat) : It :=
  ⟨fun i H => ∃ xs x, SqL K H l xs ∧ xs[i]? = some x,
   fun i H v H' => ∃ t x, v = .ref t ∧ H t = none ∧ (∀ xs, SqL K H l xs → xs[i]? = some x) ∧ H' = upd H t (.tup [vN (i + k), x]),
   fun i H => ∃ xs, SqL K H l xs ∧ xs.length = i⟩
def tnS (e it l : Addr) (k i : Nat) (h : Heap) : Prop := (∃ old, IsEnum h e it ((i + k : Nat) : Int) old) ∧ h.IsListIter it l i
theorem turn_enumS {P : Program} {w : World} {K : PySem.W.Frag} {es : List Expr} {n : Nat} {tp : Pos} {e it l : Addr} {k : Nat} (hne : e ≠ it) (hel : e ≠ l) : Turn P w K (.Tuple es n tp) (ItS K l k) [e, it] e (tnS e it l k) where
  mem := by simp
  obj := fun i h st c hc => by
    obtain ⟨⟨old, hE⟩, ⟨oa, ea, _, da⟩⟩ := st
    rcases List.mem_cons.mp hc with rfl | hc
    · exact ⟨_, hE, fun v r => by cases r⟩
    · rw [List.mem_singleton.mp hc]
      exact ⟨_, ea, fun v r => by rw [da] at r; cases r⟩
  keep := fun i h h' st kp => by
    obtain ⟨⟨old, hE⟩, ha⟩ := st
    exact ⟨⟨old, kp e (by simp) _ hE⟩, ha.at fun o z => kp it (by simp) o z⟩
  item := by
    intro X hP hw hK hc i pins s σ H E I hf st hg
    subst hP hw hK
    obtain ⟨xs, x, hx, ex⟩ := hg
    obtain ⟨⟨old, hE⟩, ha⟩ := st
    obtain ⟨i1, r1, t1, _⟩ := I.list hx
    obtain ⟨x', ex', rx⟩ := r1.get ex
    have hli : l ≠ it := fun z => by
      obtain ⟨o1, h1, c1, _⟩ := t1.isList
      obtain ⟨o2, h2, c2, _⟩ := ha
      rw [z, h2] at h1
      rw [← Option.some.inj h1, c2] at c1
      exact absurd c1 (by decide)
    have hi1 : i < i1.toArray.size := by
      have := (List.getElem?_eq_some_iff.mp ex').1
      simpa using this
    have D := L2.Draws.later (Draws.list (prog := X.prog) (w := X.w) (A := X.A.in1) (I.ok.hd hc) it l hli i1.toArray) k
    refine wpAny_pyNext_enum_itemD D hE ⟨i, rfl, ha, t1.isList⟩ (by omega) hne (by simp [hne, hel]) fun y g tk hP c1 hS c3 c4 c5 => ⟨_, rfl, ?_⟩
    obtain ⟨j, ej, hP⟩ := hP
    obtain ⟨j', ej', hit', _⟩ := hS
    have e1 : j = i := by omega
    have e2 : j' = i + 1 := by omega
    subst e1 e2
    have ey : y = x' := by
      have h1 : i1[j]? = some y := by simpa using hP
      rw [ex'] at h1
      exact (Option.some.inj h1).symm
    subst ey
    refine wpAny_letOwnedTupleGo_enum c1 fun g' z' k' => ?_
    have nT : H s.heap.objs.size = none := I.fresh
    have IA : Inv X pins σ (upd H s.heap.objs.size (.tup [vN (j + k), x])) { s with heap := s.heap.push { cls := .type "tuple", data := .seq #[.int ((j + k : Nat) : Int) tk, y] }, toks := tk + 1 } :=
      I.laid (t' := tk + 1) (fun c o z => Heap.get?_push_of_some _ z) (Nat.le_refl _) (show ObjOk X.prog X.w _ _ _ (.tup [vN (j + k), x]) from ⟨by show 2 ≤ sizeLine; decide, [.int ((j + k : Nat) : Int) tk, y], .cons ⟨_, rfl⟩ (.cons rx .nil), ⟨_, Heap.get?_push_size _ rfl, rfl, _, rfl⟩⟩)
    have fp : ∀ c ∈ [e, it], FpOk X pins (upd H s.heap.objs.size (.tup [vN (j + k), x])) c := fun c hc' => by
      have lt : c < s.heap.objs.size := by
        rcases List.mem_cons.mp hc' with rfl | hc'
        · exact Heap.lt_size hE
        · rw [List.mem_singleton.mp hc']
          obtain ⟨_, z, _⟩ := ha; exact Heap.lt_size z
      have f := hf c hc'
      exact ⟨by rw [upd_ne (Nat.ne_of_lt lt)]; exact f.1, f.2⟩
    have IB : Inv X pins σ (upd H s.heap.objs.size (.tup [vN (j + k), x])) { s with heap := g', toks := tk + 1 } := by
      refine IA.turnedL (t' := tk + 1) (h' := g') (fun c o hc' z => ?_) fp
      have n1 : c ≠ e := fun w => hc' (by rw [w]; exact List.mem_cons_self ..)
      have n2 : c ≠ it := fun w => hc' (by rw [w]; exact List.mem_cons_of_mem _ (List.mem_cons_self ..))
      refine k'.extBut _ _ n1 ?_
      by_cases hcT : c = s.heap.objs.size
      · rw [hcT] at z ⊢
        rw [Heap.get?_push_size _ rfl] at z
        rw [← z]; exact c3
      · rw [Heap.get?_push_ne _ _ _ hcT] at z
        exact c5 c o n1 n2 z
    refine ⟨.ref s.heap.objs.size, _, IB, rfl, ⟨_, x, rfl, nT, fun zs hz => by rw [I.list_inj hz hx]; exact ex, rfl⟩, ⟨⟨y, ?_⟩, hit'.extBut k'.extBut hne.symm⟩, fun c hc' => (fp c hc').1⟩
    have ei : ((j + 1 + k : Nat) : Int) = ((j + k : Nat) : Int) + 1 := by omega
    rw [ei]
    exact z'
  done := by
    intro X hP hw hK hc i pins s σ H E I hf st hg
    subst hP hw hK
    obtain ⟨xs, hx, hl⟩ := hg
    obtain ⟨⟨old, hE⟩, ha⟩ := st
    obtain ⟨i1, r1, t1, _⟩ := I.list hx
    have len := r1.length
    have hli : l ≠ it := fun z => by
      obtain ⟨o1, h1, c1, _⟩ := t1.isList
      obtain ⟨o2, h2, c2, _⟩ := ha
      rw [z, h2] at h1
      rw [← Option.some.inj h1, c2] at c1
      exact absurd c1 (by decide)
    have D := L2.Draws.later (Draws.list (prog := X.prog) (w := X.w) (A := X.A.in1) (I.ok.hd hc) it l hli i1.toArray) k
    refine wpAny_pyNext_enum_endD D hE ⟨i, by rw [List.size_toArray]; omega, ha, t1.isList⟩ fun g hk => ⟨rfl, ?_⟩
    refine I.turnedL (t' := s.toks) (h' := g) (ch := [e, it]) (fun c o hc' z => hk c o (fun w => hc' (by rw [w]; exact List.mem_cons_of_mem _ (List.mem_cons_self ..))) z) hf
  self := fun _ _ _ _ _ st h => by
    obtain ⟨⟨old, hE⟩, _⟩ := st
    exact wpAny_pyIter_enum hE h
def iEnumS (K : PySem.W.Frag) (ta tk : TA) : TI := fun σ H R => ta σ H fun vs H1 => tk σ H1 fun zs H2 => ∃ (l : Addr) (xs : List V) (k : Nat), vs = [.ref l] ∧ zs = [vN k] ∧ k ≤ 1000 ∧ SqL K H2 l xs ∧ R (ItS K l k) H2
theorem pi_enumS {K : PySem.W.Frag} {es : List Expr} {n : Nat} {tp : Pos} {e1 e2 : Expr} {ta tk : TA} {np pos kp : Pos} (hK : X.K = K) (hg : Gl X "enumerate") (hm : X.mg "enumerate" = none) (ha : PA X [e1] ta) (hkw : PK X [⟨some "start", e2, kp⟩] tk)
    (he : starEach [e1] X.env = (false, eval e1 X.env) :: starEach [] X.env := by rfl) (hall : (backToKw pos (keywordEach [⟨some "start", e2, kp⟩] X.env)).all (·.1.isSome) = true := by rfl)
    (hpl : ((backTo pos (starEach [e1] X.env)).any (·.1) || (backToKw pos (keywordEach [⟨some "start", e2, kp⟩] X.env)).any (·.1.isNone)) = false := by rfl)
    (hnm : (backToKw pos (keywordEach [⟨some "start", e2, kp⟩] X.env)).filterMap (·.1) = [Str.ofString "start"] := by rfl) :
    PI X (.Tuple es n tp) (.Call (.Name "enumerate" np) [e1] [⟨some "start", e2, kp⟩] pos) (iEnumS K ta tk) := by
  subst hK
  intro pins s σ H R I h
  refine wpAny_Call_Name_kw (ld_blt I hg hm boot_enumerate ?_)
  refine PySem.W.callWith_of (P := fun _ => True) hpl (fun g _ => ⟨.machine, .inr (.inl rfl), PySem.W.Looks.of_pure rfl⟩) (evalArgs_kw2 hall (thn (ha pos pins s σ H _ I h) fun us s1 ⟨vs, H1, I1, r1, q1⟩ => thn (hkw pos pins s1 σ H1 _ I1 q1) fun ws s2 ⟨zs, H2, I2, rz, q2⟩ => ⟨True.intro, ?_⟩) he)
  rw [hnm]
  obtain ⟨l, xs, k, rfl, rfl, hk, hl, r⟩ := q2
  obtain ⟨u1, rfl, ru1⟩ := r1.one
  cases ru1
  obtain ⟨u2, rfl, t, rfl⟩ := rz.one
  obtain ⟨i1, v1, t1, _⟩ := I2.list hl
  refine call_enumS (k := (k : Int)) (t := t) t1.isList ?_ ?_
  · unfold Builtin.SmallTypes.fitsIndex
    simp
    omega
  have hz : (s2.heap.push { cls := .type "list_iterator", data := .fields #[.ref l, .int 0 0] }).objs.size = s2.heap.objs.size + 1 := Heap.size_push ..
  have hE : IsEnum ((s2.heap.push { cls := .type "list_iterator", data := .fields #[.ref l, .int 0 0] }).push { cls := .type "enumerate", data := .fields #[.none, .bool false, .ref s2.heap.objs.size, rawInt (k : Int), .none, .none] }) (s2.heap.push { cls := .type "list_iterator", data := .fields #[.ref l, .int 0 0] }).objs.size s2.heap.objs.size ((0 + k : Nat) : Int) .none := by
    rw [Nat.zero_add]
    exact Heap.get?_push_size _ rfl
  have hI : ((s2.heap.push { cls := .type "list_iterator", data := .fields #[.ref l, .int 0 0] }).push { cls := .type "enumerate", data := .fields #[.none, .bool false, .ref s2.heap.objs.size, rawInt (k : Int), .none, .none] }).IsListIter s2.heap.objs.size l 0 := ⟨_, Heap.get?_push_of_some _ (Heap.get?_push_size _ rfl), rfl, rfl⟩
  have ll : l < s2.heap.objs.size := by
    obtain ⟨o, ho, _⟩ := t1.isList
    exact Heap.lt_size ho
  have ne1 : (s2.heap.push { cls := .type "list_iterator", data := .fields #[.ref l, .int 0 0] }).objs.size ≠ s2.heap.objs.size := by rw [hz]; exact Nat.succ_ne_self _
  have ne2 : (s2.heap.push { cls := .type "list_iterator", data := .fields #[.ref l, .int 0 0] }).objs.size ≠ l := by rw [hz]; exact Nat.ne_of_gt (Nat.lt_succ_of_lt ll)
  refine wpAny_pyIter_enum hE ⟨_, [_, s2.heap.objs.size], tnS _ s2.heap.objs.size l k, ItS X.K l k, H2, rfl, I2.kept (t' := s2.toks) (fun b o e => Heap.get?_push_of_some _ (Heap.get?_push_of_some _ e)), turn_enumS ne1 ne2, ⟨⟨_, hE⟩, hI⟩, fun c hc => ?_, r⟩
  have lc : s2.heap.objs.size ≤ c := by
    rcases List.mem_cons.mp hc with rfl | hc
    · rw [hz]; omega
    · rw [List.mem_singleton.mp hc]; exact Nat.le_refl _
  exact I2.fpOk lc (I2.hok.fresh lc)
end
end L2

namespace L2
open PySem PySem.Spec PyProof.Rows
/-! ### enumerate from a number on, in a comprehension; tuples added, the left one empty or not; max -/
theorem lc_enumS {K : PySem.W.Frag} {a : Addr} {xs : List V} {n k : Nat} {g : TG} {tc : TT} {te : TE} {σ : St} {H : Hp} {F : List V → Hp → Prop} (Pv : Nat → List V → Hp → Prop) (hn : xs.length ≤ 1000000) (h0 : Pv 0 [] H)
    (hl : ∀ i acc H, i ≤ xs.length → Pv i acc H → SqL K H a xs ∧ acc.length ≤ i)
    (hs : ∀ i x acc H t, xs[i]? = some x → Pv i acc H → H t = none → g (.ref t) (List.replicate n none ++ σ) (upd H t (.tup [vN (i + k), x])) fun σ2 H2 => σ2.drop n = σ ∧ tc σ2 H2 fun c H3 => if c = true then te σ2 H3 fun y H4 => Pv (i + 1) (acc ++ [y]) H4 else Pv (i + 1) acc H3)
    (hd : ∀ acc H, Pv xs.length acc H → F acc H) : LCW n (ItS K a k) g tc te σ H F := by
  have sz : (1000000 : Nat) < sizeLine := by rw [sizeLine_eq]; decide
  refine ⟨fun i m acc H => m = xs.length - i ∧ i ≤ xs.length ∧ Pv i acc H, ⟨xs.length, by simp, Nat.zero_le _, h0⟩, ?_⟩
  rintro i m acc H ⟨rfl, hi, p⟩
  have q := hl i acc H hi p
  by_cases hlt : i < xs.length
  · refine .inr ⟨⟨xs, xs[i], q.1, by simp [hlt]⟩, by omega, Pv (i + 1), fun acc' H' p' => ⟨xs.length - (i + 1), by omega, rfl, hlt, p'⟩, fun x H' y => ?_⟩
    obtain ⟨t, z, rfl, nt, y, rfl⟩ := y
    exact hs i z acc _ t (y xs q.1) p nt
  · have e : i = xs.length := by omega
    subst e
    exact .inl ⟨⟨xs, q.1, rfl⟩, by omega, hd acc H p⟩
section
variable {X : Cx} {K : PySem.W.Frag}
def rCatA (K : PySem.W.Frag) : R2 := fun x y H Q => ∃ a b xs ys, x = .ref a ∧ y = .ref b ∧ SqT K H a xs ∧ SqT K H b ys ∧ xs.length + ys.length ≤ sizeLine ∧ (xs = [] → Q (.ref b) H) ∧ (xs ≠ [] → ys = [] → Q (.ref a) H) ∧ (xs ≠ [] → ys ≠ [] → ∀ p, H p = none → Q (.ref p) (upd H p (.tup (xs ++ ys))))
theorem op_catA (hK : X.K = K) : OpR X (binaryOp .Add) (rCatA K) := by
  subst hK
  intro pins s σ H x y v u Q I rx ry h
  obtain ⟨a, b, xs, ys, rfl, rfl, ha, hb, hz, q0, q1, q2⟩ := h
  by_cases hx : xs = []
  · cases rx
    cases ry
    obtain ⟨its, r1, p1, _⟩ := I.tuple ha
    obtain ⟨its2, r2, p2, _⟩ := I.tuple hb
    obtain ⟨⟨cls, dd, data, sl⟩, ho, hc, n, hd⟩ := id p1
    obtain ⟨⟨cls2, dd2, data2, sl2⟩, ho2, hc2, n2, hd2⟩ := id p2
    simp only at hc hd hc2 hd2
    subst hc hd hc2 hd2
    exact concat_meets ⟨_, ho, rfl⟩ ⟨_, ho2, rfl⟩ noFill_tuple_add seq_tuple_add PySem.F.slot_tuple_add PySem.F.entry_tuple_add (PySem.F.args_tuple_add_2 _ _)
      (tuple_addW0 a b its.toArray its2.toArray n n2 dd dd2 sl sl2 (by rw [r1.nil_iff.mpr hx]; rfl)) ⟨ho, ho2, ⟨.ref b, H, I, rfl, q0 hx⟩⟩
  · exact op_catT pins s σ H _ _ v u Q I rx ry ⟨a, b, xs, ys, rfl, rfl, ha, hb, hx, hz, q1 hx, q2 hx⟩
theorem call_maxN (hc : X.calm = true) : CallR X (.builtin "max") (fun xs H Q => ∃ i j : Int, xs = [.int i, .int j] ∧ Q (.int (max i j)) H) := fun pins s σ H xs us Q I r h => call_max2 hc pins s σ H xs us Q I r (by
  obtain ⟨i, j, rfl, q⟩ := h
  refine ⟨i, j, rfl, ?_⟩
  have e : (if j > i then j else i) = max i j := by omega
  rw [e]; exact q)
theorem call_minI (hc : X.calm = true) : CallR X (.builtin "min") (fun xs H Q => ∃ i j : Int, xs = [.int i, .int j] ∧ Q (.int (min i j)) H) := fun pins s σ H xs us Q I r h => call_min2 hc pins s σ H xs us Q I r (by
  obtain ⟨i, j, rfl, q⟩ := h
  refine ⟨i, j, rfl, ?_⟩
  have e : (if j < i then j else i) = min i j := by omega
  rw [e]; exact q)
end
end L2

namespace L2
open PySem PySem.Spec PyProof.Rows
/-! ### filling a table, told exactly -/
abbrev Tbl := List (List Int)
/-- rows as a list of addresses beside their numbers -/
structure TB (H : Hp) (m : Nat) (ts : List Addr) (T : Tbl) : Prop where
  len : ts.length = T.length
  at_ : ∀ (i : Nat) (t : Addr) (r : List Int), ts[i]? = some t → T[i]? = some r → H t = some (.tup (r.map V.int))
  rl : ∀ r ∈ T, r.length = m
theorem TB.same {H H' : Hp} {m : Nat} {ts : List Addr} {T : Tbl} (h : TB H m ts T) (e : Same H H') : TB H' m ts T := ⟨h.len, fun i t r h1 h2 => e _ _ (h.at_ i t r h1 h2), h.rl⟩
theorem TB.get {H : Hp} {m i : Nat} {ts : List Addr} {T : Tbl} {t : Addr} (h : TB H m ts T) (e : ts[i]? = some t) : ∃ r, T[i]? = some r ∧ H t = some (.tup (r.map V.int)) ∧ r.length = m := by
  have hi : i < T.length := by rw [← h.len]; exact (List.getElem?_eq_some_iff.mp e).1
  exact ⟨T[i], List.getElem?_eq_getElem hi, h.at_ i t _ e (List.getElem?_eq_getElem hi), h.rl _ (List.getElem_mem hi)⟩
theorem TB.nil (H : Hp) (m : Nat) : TB H m [] [] := ⟨rfl, (fun i a r h => by cases h), fun r h => absurd h List.not_mem_nil⟩
theorem TB.snoc {H : Hp} {m : Nat} {ts : List Addr} {T : Tbl} {t : Addr} {r : List Int} (h : TB H m ts T) (ht : H t = some (.tup (r.map V.int))) (hr : r.length = m) : TB H m (ts ++ [t]) (T ++ [r]) := by
  refine ⟨by rw [List.length_append, List.length_append, h.len]; rfl, fun i b r' h1 h2 => ?_, fun r' hr' => ?_⟩
  · by_cases z : i < ts.length
    · rw [List.getElem?_append_left z] at h1
      rw [List.getElem?_append_left (by rw [← h.len]; exact z)] at h2
      exact h.at_ i b r' h1 h2
    · have hi : i < (ts ++ [t]).length := (List.getElem?_eq_some_iff.mp h1).1
      rw [List.length_append, List.length_singleton] at hi
      have ei : i = ts.length := by omega
      rw [ei, List.getElem?_append_right (Nat.le_refl _), Nat.sub_self] at h1
      rw [ei, h.len, List.getElem?_append_right (Nat.le_refl _), Nat.sub_self] at h2
      rw [← Option.some.inj h1, ← Option.some.inj h2]
      exact ht
  · rcases List.mem_append.mp hr' with hr' | hr'
    · exact h.rl r' hr'
    · rw [List.mem_singleton.mp hr']; exact hr
def unlN (r1 r2 : List Int) (s : Nat) : Option Nat := (colsN s).find? fun c => !decide (r1.getD c 0 = r2.getD c 0)
def rowT (T : Tbl) (i : Nat) : List Int := T.getD i []
theorem rowT_of {T : Tbl} {i : Nat} {r : List Int} (h : T[i]? = some r) : rowT T i = r := by unfold rowT; rw [List.getD_eq_getElem?_getD, h]; rfl
def tryP (T : Tbl) (x y i j : Nat) : Option (Nat × Nat × Nat) := if alikeL (rowT T i) (rowT T j) x = true then (unlN (rowT T i) (rowT T j) y).map fun c => (i, j, c) else none
def inP (T : Tbl) (x y i : Nat) : Option (Nat × Nat × Nat) := (List.range' (i + 1) (T.length - (i + 1))).findSome? (tryP T x y i)
def firstP (T : Tbl) (x y : Nat) : Option (Nat × Nat × Nat) := (List.range T.length).findSome? (inP T x y)
def tryS (T : Tbl) (rs : List RD) (k : Nat) : Option (Nat × Nat × Nat × Nat) := match rs[k]? with
  | some (true, x, y) => (firstP T x y).map fun p => (k, p)
  | _ => none
def firstS (T : Tbl) (rs : List RD) : Option (Nat × Nat × Nat × Nat) := (List.range rs.length).findSome? (tryS T rs)
theorem some_hit {α β : Type} {f : α → Option β} {l : List α} {i : Nat} {a : α} {b : β} (h0 : (l.take i).findSome? f = none) (e : l[i]? = some a) (h : f a = some b) : l.findSome? f = some b := by
  have hs : l = l.take i ++ a :: l.drop (i + 1) := by
    have hi := (List.getElem?_eq_some_iff.mp e).1
    have e2 := (List.getElem?_eq_some_iff.mp e).2
    rw [← e2, ← List.drop_eq_getElem_cons hi, List.take_append_drop]
  rw [hs, List.findSome?_append, h0, List.findSome?_cons, h]; rfl
theorem some_miss {α β : Type} {f : α → Option β} {l : List α} {i : Nat} {a : α} (h0 : (l.take i).findSome? f = none) (e : l[i]? = some a) (h : f a = none) : (l.take (i + 1)).findSome? f = none := by
  rw [List.take_succ, e, List.findSome?_append, h0]
  simp [h]
theorem range'_get {s n i : Nat} (h : i < n) : (List.range' s n)[i]? = some (s + i) := by
  rw [List.getElem?_range' h, Nat.one_mul]
def spUnlike (K : PySem.W.Frag) : Sp := fun vs H Q _ => ∃ (a b : Addr) (r1 r2 : List Int) (s m : Nat), vs = [.ref a, .ref b, vN s] ∧ H a = some (.tup (r1.map V.int)) ∧ H b = some (.tup (r2.map V.int)) ∧ r1.length = m ∧ r2.length = m ∧ m ≤ 7 ∧ s < 2 ^ m ∧
  (∀ H', Same H H' → unlN r1 r2 s = none → Q .non H') ∧ ∀ c H', Same H H' → unlN r1 r2 s = some c → Q (vN c) H'
def spFirstPlace (K : PySem.W.Frag) : Sp := fun vs H Q _ => ∃ (tl r : Addr) (ts : List Addr) (T : Tbl) (m x y : Nat) (st : Bool), vs = [.ref tl, .ref r] ∧ SqL K H tl (ts.map V.ref) ∧ TB H m ts T ∧ m ≤ 7 ∧ T.length ≤ 20 ∧ RuleAt H r st x y ∧ x < 2 ^ m ∧ y < 2 ^ m ∧
  (∀ H', Same H H' → firstP T x y = none → Q .non H') ∧ ∀ (p : Nat × Nat × Nat) (t : Addr) (H' : Hp), Same H H' → firstP T x y = some p → H t = none → H' t = some (.tup [vN p.1, vN p.2.1, vN p.2.2]) → Q (.ref t) H'
def spFirstStep (K : PySem.W.Frag) : Sp := fun vs H Q _ => ∃ (rl tl : Addr) (rs : List Rl) (ts : List Addr) (T : Tbl) (m : Nat), vs = [.ref rl, .ref tl] ∧ SqL K H rl (rs.map fun r => V.ref r.r) ∧ RulesAt H m rs ∧ rs.length ≤ 200 ∧ SqL K H tl (ts.map V.ref) ∧ TB H m ts T ∧ m ≤ 7 ∧ T.length ≤ 20 ∧
  (∀ H', Same H H' → firstS T (rs.map Rl.d) = none → Q .non H') ∧ ∀ (p : Nat × Nat × Nat × Nat) (t : Addr) (H' : Hp), Same H H' → firstS T (rs.map Rl.d) = some p → H t = none → H' t = some (.tup [vN p.1, vN p.2.1, vN p.2.2.1, vN p.2.2.2]) → Q (.ref t) H'
end L2

namespace L2
open PySem PySem.Spec PyProof.Rows
theorem for_rangeF {a n : Nat} {g : TG} {tb : TS} {D : Ends} {σ : St} {H : Hp} (Pv : Nat → St → Hp → Prop) (h0 : Pv 0 σ H)
    (hs : ∀ i σ H, i < n → Pv i σ H → g (vN (a + i)) σ H fun σ2 H2 => tb { D with nx := Pv (i + 1), ct := Pv (i + 1), bk := D.nx } σ2 H2) (hd : ∀ σ H, Pv n σ H → D.nx σ H) :
    ∃ W : Nat → Nat → St → Hp → Prop, (∃ m, W 0 m σ H) ∧ ∀ i m σ H, W i m σ H →
      ((Itr (a : Int) n).stop i H ∧ D.nx σ H) ∨ ((Itr (a : Int) n).go i H ∧ ∃ N : St → Hp → Prop, (∀ σ' H', N σ' H' → ∃ m', m' < m ∧ W (i + 1) m' σ' H') ∧ ∀ x H', (Itr (a : Int) n).yld i H x H' → g x σ H' fun σ2 H2 => tb { D with nx := N, ct := N, bk := D.nx } σ2 H2) :=
  for_range (lo := (a : Int)) Pv h0 (fun i σ H hi p => by
    have e : (a : Int) + (i : Int) = ((a + i : Nat) : Int) := by omega
    rw [e]; exact hs i σ H hi p) hd
theorem range_get2 {n i : Nat} (h : i < n) : (List.range n)[i]? = some i := by rw [List.getElem?_eq_getElem (by rw [List.length_range]; exact h), List.getElem_range]
def spWithN (K : PySem.W.Frag) : Sp := fun vs H Q _ => ∃ (a : Addr) (r : List Int) (c : Nat) (v : Int), vs = [.ref a, vN c, .int v] ∧ H a = some (.tup (r.map V.int)) ∧ c < r.length ∧ r.length ≤ 7 ∧ ∀ (t : Addr) (H' : Hp), Same H H' → H' t = some (.tup ((r.set c v).map V.int)) → Q (.ref t) H'
theorem small7 {n : Nat} (h : n ≤ 20) : n ≤ sizeLine := Nat.le_of_lt (small1000 (by omega))
def evenRow (c : Nat) (a b : Int) (r : List Int) : List Int := if r.getD c 0 = max a b then r.set c (min a b) else r
def spMade (K : PySem.W.Frag) : Sp := fun vs H Q _ => ∃ (tl : Addr) (ts : List Addr) (T : Tbl) (m i j c : Nat) (ri rj : List Int), vs = [.ref tl, vN i, vN j, vN c] ∧ SqL K H tl (ts.map V.ref) ∧ TB H m ts T ∧ m ≤ 7 ∧ T.length ≤ 20 ∧ T[i]? = some ri ∧ T[j]? = some rj ∧ c < m ∧
  ∀ (tl' : Addr) (ts' : List Addr) (H' : Hp), Same H H' → H tl' = none → H' tl' = some (.lst (ts'.map V.ref)) → TB H' m ts' (T.map (evenRow c (ri.getD c 0) (rj.getD c 0))) → Q (.ref tl') H'
theorem to_nat {n a : Nat} : ((n : Int) - (a : Int)).toNat = n - a := by omega
end L2

namespace L2
open PySem PySem.Spec PyProof.Rows
/-! ### the filled table as a run -/
abbrev Stp := Nat × Nat × Nat × Nat
def begRow (m i p : Nat) : List Int := mixL (List.replicate m 0) (List.replicate m ((i + 1 : Nat) : Int)) p
def begK (m : Nat) (ps : List Nat) (k : Nat) : Tbl := (List.range k).map fun i => begRow m i (ps.getD i 0)
def begT (m : Nat) (ps : List Nat) : Tbl := begK m ps ps.length
theorem begRow_len (m i p : Nat) : (begRow m i p).length = m := by
  unfold begRow mixL
  rw [List.length_map, List.length_range, List.length_replicate]
theorem begRow_get {m i p k : Nat} (hk : k < m) : (begRow m i p).getD k 0 = if hasB p k = true then 0 else ((i + 1 : Nat) : Int) := by
  unfold begRow mixL
  rw [List.getD_eq_getElem?_getD, List.getElem?_map, List.length_replicate, range_get2 hk]
  show (if hasB p k = true then (List.replicate m (0 : Int)).getD k 0 else (List.replicate m ((i + 1 : Nat) : Int)).getD k 0) = _
  have h1 : (List.replicate m (0 : Int)).getD k 0 = 0 := by rw [List.getD_eq_getElem?_getD, List.getElem?_replicate, if_pos hk]; rfl
  have h2 : (List.replicate m ((i + 1 : Nat) : Int)).getD k 0 = ((i + 1 : Nat) : Int) := by rw [List.getD_eq_getElem?_getD, List.getElem?_replicate, if_pos hk]; rfl
  rw [h1, h2]
def rsum (r : List Int) : Nat := (r.map Int.toNat).sum
def tsum (T : Tbl) : Nat := (T.map rsum).sum
def stepT (T : Tbl) (p : Stp) : Tbl := T.map (evenRow p.2.2.2 ((rowT T p.2.1).getD p.2.2.2 0) ((rowT T p.2.2.1).getD p.2.2.2 0))
def runT (rs : List RD) : Nat → Tbl → Tbl × List Stp
  | 0, T => (T, [])
  | n + 1, T => match firstS T rs with
    | none => (T, [])
    | some p => ((runT rs n (stepT T p)).1, p :: (runT rs n (stepT T p)).2)
/-- what the first step is -/
structure StepP (T : Tbl) (rs : List RD) (p : Stp) (ri rj : List Int) (x y : Nat) : Prop where
  rule : rs[p.1]? = some (true, x, y)
  ei : T[p.2.1]? = some ri
  ej : T[p.2.2.1]? = some rj
  lt : p.2.1 < p.2.2.1
  al : alikeL ri rj x = true
  un : unlN ri rj y = some p.2.2.2
theorem findSome_mem {α β : Type} {f : α → Option β} : ∀ {l : List α} {b : β}, l.findSome? f = some b → ∃ a ∈ l, f a = some b
  | a :: l, b, h => by
    rw [List.findSome?_cons] at h
    cases e : f a with
    | some c =>
      rw [e] at h
      exact ⟨a, List.mem_cons_self .., by rw [e]; exact h⟩
    | none =>
      rw [e] at h
      obtain ⟨a', h1, h2⟩ := findSome_mem h
      exact ⟨a', List.mem_cons_of_mem _ h1, h2⟩
theorem firstS_some {T : Tbl} {rs : List RD} {p : Stp} (h : firstS T rs = some p) : ∃ ri rj x y, StepP T rs p ri rj x y := by
  obtain ⟨k, hk, h1⟩ := findSome_mem h
  unfold tryS at h1
  split at h1
  · rename_i x y hr
    rw [Option.map_eq_some_iff] at h1
    obtain ⟨q, hq, rfl⟩ := h1
    obtain ⟨i, hi, h2⟩ := findSome_mem hq
    obtain ⟨j, hj, h3⟩ := findSome_mem h2
    unfold tryP at h3
    split at h3
    · rename_i hal
      rw [Option.map_eq_some_iff] at h3
      obtain ⟨c, hc, rfl⟩ := h3
      have hi' := List.mem_range.mp hi
      obtain ⟨t, ht, ej⟩ := List.mem_range'.mp hj
      have hj' : j < T.length := by omega
      have e1 : T[i]? = some T[i] := List.getElem?_eq_getElem hi'
      have e2 : T[j]? = some T[j] := List.getElem?_eq_getElem hj'
      rw [rowT_of e1, rowT_of e2] at hal hc
      exact ⟨T[i], T[j], x, y, hr, e1, e2, by show i < j; omega, hal, hc⟩
    · cases h3
  · cases h1
theorem unlN_some {r1 r2 : List Int} {s c m : Nat} (hs : s < 2 ^ m) (m7 : m ≤ 7) (h : unlN r1 r2 s = some c) : c < m ∧ r1.getD c 0 ≠ r2.getD c 0 := by
  have p7 := pow7 m7
  have h1 := List.mem_of_find?_eq_some h
  have h2 := List.find?_some h
  refine ⟨hasb_lt hs ((cols_mem (by omega) c).mp h1), fun z => ?_⟩
  rw [decide_eq_true z] at h2
  cases h2
theorem rsum_set : ∀ (r : List Int) (c : Nat) (v : Int), c < r.length → rsum (r.set c v) + (r.getD c 0).toNat = rsum r + v.toNat
  | x :: r, 0, v, _ => by
    show ((v :: r).map Int.toNat).sum + _ = ((x :: r).map Int.toNat).sum + _
    rw [List.map_cons, List.map_cons, List.sum_cons, List.sum_cons]
    show v.toNat + _ + x.toNat = x.toNat + _ + v.toNat
    omega
  | x :: r, c + 1, v, h => by
    have := rsum_set r c v (by simpa using h)
    show ((x :: r.set c v).map Int.toNat).sum + (r.getD c 0).toNat = ((x :: r).map Int.toNat).sum + _
    rw [List.map_cons, List.map_cons, List.sum_cons, List.sum_cons]
    have e1 : ((r.set c v).map Int.toNat).sum = rsum (r.set c v) := rfl
    have e2 : (r.map Int.toNat).sum = rsum r := rfl
    rw [e1, e2]
    omega
def NonN (T : Tbl) : Prop := ∀ r ∈ T, ∀ v ∈ r, (0 : Int) ≤ v
theorem evenRow_len (c : Nat) (a b : Int) (r : List Int) : (evenRow c a b r).length = r.length := by
  unfold evenRow
  split
  · rw [List.length_set]
  · rfl
theorem evenRow_sum {c : Nat} {a b : Int} {r : List Int} (hc : c < r.length) (h : a ≠ b) (ha : 0 ≤ a) (hb : 0 ≤ b) : rsum (evenRow c a b r) ≤ rsum r ∧ (r.getD c 0 = max a b → rsum (evenRow c a b r) < rsum r) := by
  unfold evenRow
  split
  · rename_i e
    have := rsum_set r c (min a b) hc
    rw [e] at this
    exact ⟨by omega, fun _ => by omega⟩
  · rename_i e
    exact ⟨Nat.le_refl _, fun z => absurd z e⟩
theorem even_tsum {m c : Nat} {a b : Int} (hc : c < m) (h : a ≠ b) (ha : 0 ≤ a) (hb : 0 ≤ b) : ∀ {T : Tbl}, (∀ r ∈ T, r.length = m) → tsum (T.map (evenRow c a b)) ≤ tsum T ∧ ((∃ r ∈ T, r.getD c 0 = max a b) → tsum (T.map (evenRow c a b)) < tsum T)
  | [], _ => ⟨Nat.le_refl _, fun ⟨_, h, _⟩ => absurd h List.not_mem_nil⟩
  | r :: T, hl => by
    obtain ⟨i1, i2⟩ := even_tsum hc h ha hb (T := T) fun r' hr => hl r' (List.mem_cons_of_mem _ hr)
    obtain ⟨e1, e2⟩ := evenRow_sum (r := r) (by rw [hl r (List.mem_cons_self ..)]; exact hc) h ha hb
    have e : ∀ C : Tbl, ∀ x, tsum (x :: C) = rsum x + tsum C := fun C x => by unfold tsum; rw [List.map_cons, List.sum_cons]
    rw [List.map_cons, e, e]
    refine ⟨by omega, ?_⟩
    rintro ⟨r', hr', er⟩
    rcases List.mem_cons.mp hr' with rfl | hr'
    · have := e2 er; omega
    · have := i2 ⟨r', hr', er⟩; omega
theorem evenRow_nonneg {c : Nat} {a b : Int} {r : List Int} (ha : 0 ≤ a) (hb : 0 ≤ b) (h : ∀ v ∈ r, (0 : Int) ≤ v) : ∀ v ∈ evenRow c a b r, (0 : Int) ≤ v := fun v hv => by
  unfold evenRow at hv
  split at hv
  · rcases List.mem_or_eq_of_mem_set hv with hv | rfl
    · exact h v hv
    · omega
  · exact h v hv
def Rules (m : Nat) (rs : List RD) : Prop := ∀ r ∈ rs, r.2.1 < 2 ^ m ∧ r.2.2 < 2 ^ m
structure TAt (m : Nat) (rs : List RD) (T0 : Tbl) (ss : List Stp) (T : Tbl) (n : Nat) : Prop where
  nn : NonN T
  rl : ∀ r ∈ T, r.length = m
  ln : T.length = T0.length
  fuel : tsum T ≤ n
  eT : (runT rs n T).1 = (runT rs 1000 T0).1
  eS : ss ++ (runT rs n T).2 = (runT rs 1000 T0).2
  len : ss.length + n ≤ 1000
theorem getD_mem {r : List Int} {c : Nat} (h : c < r.length) : r.getD c 0 ∈ r := by
  rw [List.getD_eq_getElem?_getD, List.getElem?_eq_getElem h]; exact List.getElem_mem h
theorem TAt.next {m n : Nat} {rs : List RD} {T0 T : Tbl} {ss : List Stp} {p : Stp} (m7 : m ≤ 7) (hrs : Rules m rs) (A : TAt m rs T0 ss T n) (h : firstS T rs = some p) :
    (∃ ri rj, T[p.2.1]? = some ri ∧ T[p.2.2.1]? = some rj ∧ p.2.2.2 < m ∧ stepT T p = T.map (evenRow p.2.2.2 (ri.getD p.2.2.2 0) (rj.getD p.2.2.2 0))) ∧ ∃ n', n = n' + 1 ∧ TAt m rs T0 (ss ++ [p]) (stepT T p) n' := by
  obtain ⟨ri, rj, x, y, S⟩ := firstS_some h
  obtain ⟨hc, hne⟩ := unlN_some (hrs _ (List.mem_of_getElem? S.rule)).2 m7 S.un
  have hri := List.mem_of_getElem? S.ei
  have hrj := List.mem_of_getElem? S.ej
  have li := A.rl ri hri
  have lj := A.rl rj hrj
  have ha := A.nn ri hri _ (getD_mem (c := p.2.2.2) (by omega))
  have hb := A.nn rj hrj _ (getD_mem (c := p.2.2.2) (by omega))
  have es : stepT T p = T.map (evenRow p.2.2.2 (ri.getD p.2.2.2 0) (rj.getD p.2.2.2 0)) := by unfold stepT; rw [rowT_of S.ei, rowT_of S.ej]
  refine ⟨⟨ri, rj, S.ei, S.ej, hc, es⟩, ?_⟩
  have dec : tsum (stepT T p) < tsum T := by
    rw [es]
    refine (even_tsum hc hne ha hb A.rl).2 ?_
    by_cases z : ri.getD p.2.2.2 0 < rj.getD p.2.2.2 0
    · exact ⟨rj, hrj, by omega⟩
    · exact ⟨ri, hri, by omega⟩
  have hf := A.fuel
  cases n with
  | zero => omega
  | succ n =>
    have e1 := A.eT
    have e2 := A.eS
    unfold runT at e1 e2
    rw [h] at e1 e2
    have hl := A.len
    refine ⟨n, rfl, ?_, ?_, ?_, by omega, e1, by rw [List.append_assoc]; exact e2, by rw [List.length_append]; show ss.length + 1 + n ≤ 1000; omega⟩
    · rw [es]
      intro r hr
      obtain ⟨r0, h0, rfl⟩ := List.mem_map.mp hr
      exact evenRow_nonneg ha hb (A.nn r0 h0)
    · rw [es]
      intro r hr
      obtain ⟨r0, h0, rfl⟩ := List.mem_map.mp hr
      rw [evenRow_len]; exact A.rl r0 h0
    · rw [es, List.length_map]; exact A.ln
theorem TAt.done {m n : Nat} {rs : List RD} {T0 T : Tbl} {ss : List Stp} (A : TAt m rs T0 ss T n) (h : firstS T rs = none) : T = (runT rs 1000 T0).1 ∧ ss = (runT rs 1000 T0).2 := by
  have e1 := A.eT
  have e2 := A.eS
  cases n with
  | zero =>
    unfold runT at e1 e2
    rw [List.append_nil] at e2
    exact ⟨e1, e2⟩
  | succ n =>
    unfold runT at e1 e2
    rw [h] at e1 e2
    rw [List.append_nil] at e2
    exact ⟨e1, e2⟩
abbrev SW4 := Addr × Stp
def Steps4 (H : Hp) (sw : List SW4) : Prop := ∀ w ∈ sw, H w.1 = some (.tup [vN w.2.1, vN w.2.2.1, vN w.2.2.2.1, vN w.2.2.2.2])
theorem Steps4.same {H H' : Hp} {sw : List SW4} (h : Steps4 H sw) (e : Same H H') : Steps4 H' sw := fun w hw => e _ _ (h w hw)
theorem Steps4.put {H : Hp} {sw : List SW4} {q : Addr} {xs ys : List V} (h : Steps4 H sw) (hq : H q = some (.lst xs)) : Steps4 (upd H q (.lst ys)) sw := fun w hw => by
  rw [upd_ne (ne_of (h w hw) hq (by intro z; cases z))]; exact h w hw
theorem Steps4.snoc {H : Hp} {sw : List SW4} {w : SW4} (h : Steps4 H sw) (hw : H w.1 = some (.tup [vN w.2.1, vN w.2.2.1, vN w.2.2.2.1, vN w.2.2.2.2])) : Steps4 H (sw ++ [w]) := fun v hv => by
  rcases List.mem_append.mp hv with hv | hv
  · exact h v hv
  · rw [List.mem_singleton.mp hv]; exact hw
theorem TB.putL {H : Hp} {m : Nat} {ts : List Addr} {T : Tbl} {q : Addr} {xs ys : List V} (h : TB H m ts T) (hq : H q = some (.lst xs)) : TB (upd H q (.lst ys)) m ts T :=
  ⟨h.len, fun i t r h1 h2 => by
    have := h.at_ i t r h1 h2
    rw [upd_ne (ne_of this hq (by intro z; cases z))]; exact this, h.rl⟩
def spCheck (K : PySem.W.Frag) : Sp := fun vs H Q _ => ∃ (m : Nat) (pl : Addr) (ps : List Nat), vs = [vN m, .ref pl] ∧ m ≤ 7 ∧ SqL K H pl (ps.map vN) ∧ ps.length ≤ 10 ∧ ps.foldl (· ||| ·) 0 = 2 ^ m - 1 ∧ ∀ H', Same H H' → Q .non H'
def spBegunT (K : PySem.W.Frag) : Sp := fun vs H Q _ => ∃ (m : Nat) (pl : Addr) (ps : List Nat), vs = [vN m, .ref pl] ∧ 1 ≤ m ∧ m ≤ 7 ∧ SqL K H pl (ps.map vN) ∧ ps.length ≤ 10 ∧ ∀ (tl : Addr) (ts : List Addr) (H' : Hp), Same H H' → H tl = none → H' tl = some (.lst (ts.map V.ref)) → TB H' m ts (begT m ps) → Q (.ref tl) H'
def spFilled (K : PySem.W.Frag) : Sp := fun vs H Q _ => ∃ (m : Nat) (rl pl : Addr) (rs : List Rl) (ps : List Nat), vs = [vN m, .ref rl, .ref pl] ∧ 1 ≤ m ∧ m ≤ 7 ∧ SqL K H rl (rs.map fun r => V.ref r.r) ∧ RulesAt H m rs ∧ rs.length ≤ 200 ∧ SqL K H pl (ps.map vN) ∧ ps.length ≤ 10 ∧ ps.foldl (· ||| ·) 0 = 2 ^ m - 1 ∧
  ∀ (t tl sl : Addr) (ts : List Addr) (sw : List SW4) (H' : Hp), Same H H' → H' t = some (.tup [.ref tl, .ref sl]) → H tl = none → H' tl = some (.lst (ts.map V.ref)) → TB H' m ts (runT (rs.map Rl.d) 1000 (begT m ps)).1 → H sl = none → H' sl = some (.lst (sw.map fun w => V.ref w.1)) → Steps4 H' sw → sw.map (·.2) = (runT (rs.map Rl.d) 1000 (begT m ps)).2 → sw.length ≤ 1000 → tl ≠ sl → Q (.ref t) H'
/-- the loop of filling under way -/
def FInv (H : Hp) (m : Nat) (rl pl : Addr) (rs : List Rl) (ps : List Nat) (n : Nat) (σ : St) (H' : Hp) : Prop :=
  ∃ (T : Tbl) (ts : List Addr) (tl sl : Addr) (sw : List SW4) (v : V), σ = [some (vN m), some (.ref rl), some (.ref pl), some (.ref tl), some (.ref sl), some v] ∧ TAt m (rs.map Rl.d) (begT m ps) (sw.map (·.2)) T n ∧ Same H H' ∧ H tl = none ∧ H' tl = some (.lst (ts.map V.ref)) ∧ TB H' m ts T ∧ H sl = none ∧ tl ≠ sl ∧ H' sl = some (.lst (sw.map fun w => V.ref w.1)) ∧ Steps4 H' sw ∧
    ((firstS T (rs.map Rl.d) = none ∧ v = .non) ∨ ∃ p t, firstS T (rs.map Rl.d) = some p ∧ v = .ref t ∧ H' t = some (.tup [vN p.1, vN p.2.1, vN p.2.2.1, vN p.2.2.2]))
theorem sum_le {k : Nat} : ∀ {l : List Nat}, (∀ x ∈ l, x ≤ k) → l.sum ≤ k * l.length
  | [], _ => Nat.zero_le _
  | x :: l, h => by
    have h1 := sum_le (l := l) fun y hy => h y (List.mem_cons_of_mem _ hy)
    have h2 := h x (List.mem_cons_self ..)
    rw [List.sum_cons, List.length_cons, Nat.mul_succ]
    omega
theorem beg_entry {m i p : Nat} {v : Int} (hv : v ∈ begRow m i p) : v = 0 ∨ v = ((i + 1 : Nat) : Int) := by
  obtain ⟨k, hk, e⟩ := List.getElem_of_mem hv
  have hk' : k < m := by rw [begRow_len] at hk; exact hk
  have h0 := begRow_get (m := m) (i := i) (p := p) hk'
  rw [List.getD_eq_getElem?_getD, List.getElem?_eq_getElem hk, e] at h0
  have h1 : v = if hasB p k = true then 0 else ((i + 1 : Nat) : Int) := h0
  split at h1
  · exact .inl h1
  · exact .inr h1
theorem begT_at {m : Nat} {rs : List RD} {ps : List Nat} (lp : ps.length ≤ 10) (m7 : m ≤ 7) : TAt m rs (begT m ps) [] (begT m ps) 1000 := by
  have nn : NonN (begT m ps) := fun r hr v hv => by
    obtain ⟨i, _, rfl⟩ := List.mem_map.mp hr
    rcases beg_entry hv with h | h <;> omega
  refine ⟨nn, fun r hr => ?_, rfl, ?_, rfl, rfl, Nat.le_refl _⟩
  · obtain ⟨i, _, rfl⟩ := List.mem_map.mp hr
    exact begRow_len ..
  · have h1 : ∀ x ∈ (begT m ps).map rsum, x ≤ 70 := fun x hx => by
      obtain ⟨r, hr, rfl⟩ := List.mem_map.mp hx
      obtain ⟨i, hi, rfl⟩ := List.mem_map.mp hr
      have hi' := List.mem_range.mp hi
      have h2 : ∀ y ∈ (begRow m i (ps.getD i 0)).map Int.toNat, y ≤ 10 := fun y hy => by
        obtain ⟨v, hv, rfl⟩ := List.mem_map.mp hy
        rcases beg_entry hv with h | h <;> omega
      have h3 := sum_le h2
      rw [List.length_map, begRow_len] at h3
      show ((begRow m i (ps.getD i 0)).map Int.toNat).sum ≤ 70
      omega
    have h4 := sum_le h1
    have h5 : ((begT m ps).map rsum).length = ps.length := by unfold begT begK; rw [List.length_map, List.length_map, List.length_range]
    rw [h5] at h4
    show ((begT m ps).map rsum).sum ≤ 1000
    omega
end L2

namespace L2
open PySem PySem.Spec PyProof.Rows
section
variable {X : Cx} {K : PySem.W.Frag} {pins : List (Addr × Obj)} {σ : St} {H : Hp} {s : Shared}
end
theorem zip_refs : ∀ {ts : List Addr} {T : Tbl}, ts.length = T.length → refsOf (ts.zip T) = ts.map V.ref
  | [], [], _ => rfl
  | [], _ :: _, e => by cases e
  | _ :: _, [], e => by cases e
  | t :: ts, r :: T, e => by
    show V.ref t :: refsOf (ts.zip T) = V.ref t :: ts.map V.ref
    rw [zip_refs (by simpa using e)]
theorem TB.zip {H : Hp} {m : Nat} {ts : List Addr} {T : Tbl} (h : TB H m ts T) : (∀ w ∈ ts.zip T, H w.1 = some (.tup (w.2.map V.int))) ∧ ∀ ns, (∃ c ∈ ts.zip T, c.2 = ns) ↔ ns ∈ T := by
  constructor
  · intro w hw
    obtain ⟨i, hi⟩ := List.getElem?_of_mem hw
    rw [List.getElem?_zip_eq_some] at hi
    exact h.at_ i w.1 w.2 hi.1 hi.2
  · intro ns
    constructor
    · rintro ⟨c, hc, rfl⟩
      exact (List.of_mem_zip hc).2
    · intro hn
      obtain ⟨i, hi⟩ := List.getElem?_of_mem hn
      have hl : i < ts.length := by rw [h.len]; exact (List.getElem?_eq_some_iff.mp hi).1
      refine ⟨(ts[i], ns), List.mem_of_getElem? (i := i) ?_, rfl⟩
      rw [List.getElem?_zip_eq_some]
      exact ⟨List.getElem?_eq_getElem hl, hi⟩
/-! parts with all columns among them -/
theorem or_bits (k : Nat) : ∀ (l : List Nat) (a : Nat), HasB (l.foldl (· ||| ·) a) k ↔ HasB a k ∨ ∃ p ∈ l, HasB p k
  | [], a => ⟨.inl, fun h => h.elim id fun ⟨_, h, _⟩ => absurd h List.not_mem_nil⟩
  | x :: l, a => by
    rw [List.foldl_cons, or_bits k l (a ||| x), hasb_or]
    constructor
    · rintro ((h | h) | ⟨p, hp, h⟩)
      · exact .inl h
      · exact .inr ⟨x, List.mem_cons_self .., h⟩
      · exact .inr ⟨p, List.mem_cons_of_mem _ hp, h⟩
    · rintro (h | ⟨p, hp, h⟩)
      · exact .inl (.inl h)
      · rcases List.mem_cons.mp hp with rfl | hp
        · exact .inl (.inr h)
        · exact .inr ⟨p, hp, h⟩
theorem or_lt {m : Nat} {l : List Nat} (h : ∀ p ∈ l, p < 2 ^ m) : l.foldl (· ||| ·) 0 < 2 ^ m := by
  refine Nat.lt_pow_two_of_testBit _ fun k hk => ?_
  cases e : (l.foldl (· ||| ·) 0).testBit k with
  | false => rfl
  | true =>
    rcases (or_bits k l 0).mp e with h0 | ⟨p, hp, hb⟩
    · unfold HasB at h0
      rw [Nat.zero_testBit] at h0; cases h0
    · have := hasb_lt (h p hp) hb
      omega
theorem parts_full {m a p : Nat} {l : List Nat} (h : ∀ p ∈ l, p < 2 ^ m) (ep : l[a]? = some p) : (∀ q ∈ l.set a (p ||| (2 ^ m - 1 - l.foldl (· ||| ·) 0)), q < 2 ^ m) ∧ (l.set a (p ||| (2 ^ m - 1 - l.foldl (· ||| ·) 0))).foldl (· ||| ·) 0 = 2 ^ m - 1 := by
  have pw : 0 < 2 ^ m := Nat.two_pow_pos m
  have hj := or_lt h
  have hpl := h p (List.mem_of_getElem? ep)
  have hnew : p ||| (2 ^ m - 1 - l.foldl (· ||| ·) 0) < 2 ^ m := Nat.or_lt_two_pow hpl (by omega)
  have hall : ∀ q ∈ l.set a (p ||| (2 ^ m - 1 - l.foldl (· ||| ·) 0)), q < 2 ^ m := fun q hq => by
    rcases List.mem_or_eq_of_mem_set hq with hq | rfl
    · exact h q hq
    · exact hnew
  refine ⟨hall, bits_eq fun k => ?_⟩
  have ha : a < l.length := (List.getElem?_eq_some_iff.mp ep).1
  have hin : p ||| (2 ^ m - 1 - l.foldl (· ||| ·) 0) ∈ l.set a (p ||| (2 ^ m - 1 - l.foldl (· ||| ·) 0)) := List.mem_of_getElem? (i := a) (List.getElem?_set_self ha)
  rw [or_bits, hasb_all]
  constructor
  · rintro (h0 | ⟨q, hq, hb⟩)
    · unfold HasB at h0
      rw [Nat.zero_testBit] at h0; cases h0
    · exact hasb_lt (hall q hq) hb
  · intro hk
    refine .inr ?_
    by_cases hjk : HasB (l.foldl (· ||| ·) 0) k
    · rcases (or_bits k l 0).mp hjk with h0 | ⟨q, hq, hb⟩
      · unfold HasB at h0
        rw [Nat.zero_testBit] at h0; cases h0
      · obtain ⟨i, hi⟩ := List.getElem?_of_mem hq
        by_cases e : i = a
        · subst e
          rw [ep] at hi
          rw [← Option.some.inj hi] at hb
          exact ⟨_, hin, (hasb_or _ _ _).mpr (.inl hb)⟩
        · exact ⟨q, List.mem_of_getElem? (i := i) (by rw [List.getElem?_set_ne (Ne.symm e)]; exact hi), hb⟩
    · exact ⟨_, hin, (hasb_or _ _ _).mpr (.inr ((hasb_full hj k).mpr ⟨hk, hjk⟩))⟩
def spParts53 (K : PySem.W.Frag) : Sp := fun vs H Q _ => ∃ (st : Addr) (ns : List Int) (k m mo : Nat), vs = [.ref st, vN m, vN mo] ∧ STF K H st ns k ∧ k ≤ 1000 ∧ ns.length ≤ 63 ∧ 1 ≤ m ∧ m ≤ 7 ∧ 1 ≤ mo ∧ mo ≤ 10 ∧
  ∀ (ps : List Nat) (p : Addr) (k' : Nat) (H' : Hp), (∀ q ∈ ps, q < 2 ^ m) → 1 ≤ ps.length → ps.length ≤ 10 → ps.foldl (· ||| ·) 0 = 2 ^ m - 1 → k' ≤ k + 100 → STF K H' st ns k' → But st H H' → H p = none → p ≠ st → H' p = some (.lst (ps.map vN)) → Q (.ref p) H'
end L2

namespace L2
open PySem PySem.Spec PyProof.Rows
/-- no greater anywhere, and nothing below nought -/
def LowT (m : Nat) (T U : Tbl) : Prop := T.length = U.length ∧ ∀ (i : Nat) (r u : List Int), T[i]? = some r → U[i]? = some u → ∀ c, c < m → (0 : Int) ≤ r.getD c 0 ∧ r.getD c 0 ≤ u.getD c 0
theorem run_low {m : Nat} {rs : List RD} (m7 : m ≤ 7) (hrs : Rules m rs) : ∀ (n : Nat) (T U : Tbl), (∀ r ∈ T, r.length = m) → NonN T → LowT m T U → LowT m (runT rs n T).1 U ∧ (∀ r ∈ (runT rs n T).1, r.length = m)
  | 0, T, U, hl, hn, h => ⟨h, hl⟩
  | n + 1, T, U, hl, hn, h => by
    unfold runT
    cases e : firstS T rs with
    | none => exact ⟨h, hl⟩
    | some p =>
      obtain ⟨ri, rj, x, y, S⟩ := firstS_some e
      obtain ⟨hc, hne⟩ := unlN_some (hrs _ (List.mem_of_getElem? S.rule)).2 m7 S.un
      have hri := List.mem_of_getElem? S.ei
      have hrj := List.mem_of_getElem? S.ej
      have ha := hn ri hri _ (getD_mem (c := p.2.2.2) (by rw [hl ri hri]; exact hc))
      have hb := hn rj hrj _ (getD_mem (c := p.2.2.2) (by rw [hl rj hrj]; exact hc))
      have es : stepT T p = T.map (evenRow p.2.2.2 (ri.getD p.2.2.2 0) (rj.getD p.2.2.2 0)) := by unfold stepT; rw [rowT_of S.ei, rowT_of S.ej]
      refine run_low m7 hrs n (stepT T p) U ?_ ?_ ⟨by rw [es, List.length_map]; exact h.1, fun i r u h1 h2 c hcm => ?_⟩
      · rw [es]
        intro r hr
        obtain ⟨r0, h0, rfl⟩ := List.mem_map.mp hr
        rw [evenRow_len]; exact hl r0 h0
      · rw [es]
        intro r hr
        obtain ⟨r0, h0, rfl⟩ := List.mem_map.mp hr
        exact evenRow_nonneg ha hb (hn r0 h0)
      · rw [es, List.getElem?_map] at h1
        cases e0 : T[i]? with
        | none => rw [e0] at h1; cases h1
        | some r0 =>
          rw [e0] at h1
          obtain rfl := (Option.some.inj h1).symm
          obtain ⟨l1, l2⟩ := h.2 i r0 u e0 h2 c hcm
          unfold evenRow
          split
          · rename_i em
            by_cases ec : c = p.2.2.2
            · rw [ec] at l1 l2 ⊢
              have hlen : p.2.2.2 < r0.length := by rw [hl r0 (List.mem_of_getElem? e0)]; exact hc
              rw [List.getD_eq_getElem?_getD, List.getElem?_set_self hlen]
              show (0 : Int) ≤ min _ _ ∧ min _ _ ≤ _
              omega
            · rw [List.getD_eq_getElem?_getD, List.getElem?_set_ne (Ne.symm ec), ← List.getD_eq_getElem?_getD]
              exact ⟨l1, l2⟩
          · exact ⟨l1, l2⟩
theorem hasB_div {p c : Nat} : hasB p c = decide (p / 2 ^ c % 2 = 1) := rfl
end L2

namespace L2
open PySem PySem.Spec PyProof.Rows
/-! ### tables as data; k53 -/
def dRow (r : List Int) : PyData := .tuple (r.map PyData.int)
theorem same_dRow (a b : List Int) : same (dRow a) (dRow b) = decide (a = b) := by
  unfold dRow
  simp only [same]
  exact sameAll_map sameI a b
theorem noMix_dRow (a b : List Int) : SeqAt.noMix (dRow a) (dRow b) = true := by
  unfold dRow
  simp only [SeqAt.noMix]
  exact noMixAll_map (fun _ _ => by simp [SeqAt.noMix]) a b
theorem canLay_dRow (a : List Int) : PyData.canLay0 (dRow a) = true := by
  unfold dRow
  simp only [PyData.canLay0]
  exact canLayAll_map (fun _ => by simp [PyData.canLay0]) a
theorem depth_dRow (a : List Int) : PyData.depth (dRow a) ≤ 10 := by
  unfold dRow
  have d : PyData.depthAll (a.map PyData.int) ≤ 5 := depthAll_map (fun _ => by simp [PyData.depth]) a
  simp only [PyData.depth]
  omega
theorem rows_dvs {K : PySem.W.Frag} {H : Hp} : ∀ {ts : List Addr} {T : Tbl}, ts.length = T.length → (∀ (i : Nat) (t : Addr) (r : List Int), ts[i]? = some t → T[i]? = some r → H t = some (.tup (r.map V.int))) → DVs K H (ts.map V.ref) (T.map dRow)
  | [], [], _, _ => .nil
  | [], _ :: _, e, _ => by cases e
  | _ :: _, [], e, _ => by cases e
  | t :: ts, r :: T, e, h => .cons (.tup (SqT.of (h 0 t r rfl rfl)) (ints_dv r)) (rows_dvs (by simpa using e) fun i t' r' h1 h2 => h (i + 1) t' r' (by simpa using h1) (by simpa using h2))
theorem hasb_test : ∀ p, p < 128 → ∀ k, k < 7 → hasB p k = p.testBit k := by decide +kernel
section
variable {X : Cx} {K : PySem.W.Frag}
end
end L2

namespace L2
open PySem PySem.Spec PyProof.Rows
/-! ### rows as lists that are filled in their place (k54) -/
theorem cols_in : ∀ m, m < 8 → ∀ a, a < 2 ^ m → colsN a = (List.range m).filter (hasB a) := by decide +kernel
def unlQ (r1 r2 : List Int) (s c : Nat) : Bool := hasB s c && !decide (r1.getD c 0 = r2.getD c 0)
theorem unl_range {m s : Nat} {r1 r2 : List Int} (m7 : m ≤ 7) (hs : s < 2 ^ m) : unlN r1 r2 s = (List.range m).find? (unlQ r1 r2 s) := by
  unfold unlN
  rw [cols_in m (by omega) s hs, List.find?_filter]
  refine congrArg (fun f => List.find? f (List.range m)) (funext fun c => ?_)
  unfold unlQ
  rw [Bool.eq_iff_iff, decide_eq_true_iff, Bool.and_eq_true]
theorem alike_unl {r1 r2 : List Int} {s : Nat} : alikeL r1 r2 s = true ↔ unlN r1 r2 s = none := by
  unfold alikeL unlN
  rw [List.find?_eq_none, List.all_map, List.all_eq_true]
  constructor
  · intro h c hc z
    have h1 : decide (r1.getD c 0 = r2.getD c 0) = true := h c hc
    rw [h1] at z
    cases z
  · intro h c hc
    show decide (r1.getD c 0 = r2.getD c 0) = true
    cases e : decide (r1.getD c 0 = r2.getD c 0) with
    | true => rfl
    | false => exact absurd (by rw [e]; rfl) (h c hc)
structure LB (H : Hp) (m : Nat) (as : List Addr) (T : Tbl) : Prop where
  len : as.length = T.length
  at_ : ∀ (i : Nat) (a : Addr) (r : List Int), as[i]? = some a → T[i]? = some r → H a = some (.lst (r.map V.int))
  nd : as.Nodup
  rl : ∀ r ∈ T, r.length = m
theorem LB.same {H H' : Hp} {m : Nat} {as : List Addr} {T : Tbl} (h : LB H m as T) (e : Same H H') : LB H' m as T := ⟨h.len, fun i a r h1 h2 => e _ _ (h.at_ i a r h1 h2), h.nd, h.rl⟩
theorem LB.get {H : Hp} {m i : Nat} {as : List Addr} {T : Tbl} {a : Addr} (h : LB H m as T) (e : as[i]? = some a) : ∃ r, T[i]? = some r ∧ H a = some (.lst (r.map V.int)) ∧ r.length = m := by
  have hi : i < T.length := by rw [← h.len]; exact (List.getElem?_eq_some_iff.mp e).1
  exact ⟨T[i], List.getElem?_eq_getElem hi, h.at_ i a _ e (List.getElem?_eq_getElem hi), h.rl _ (List.getElem_mem hi)⟩
theorem LB.nil (H : Hp) (m : Nat) : LB H m [] [] := ⟨rfl, (fun i a r h => by cases h), List.Pairwise.nil, fun r h => absurd h List.not_mem_nil⟩
theorem LB.put {H : Hp} {m : Nat} {as : List Addr} {T : Tbl} {p : Addr} {o : HO} (h : LB H m as T) (hp : p ∉ as) : LB (upd H p o) m as T :=
  ⟨h.len, fun i a r h1 h2 => by
    have hn : a ≠ p := fun z => hp (by rw [← z]; exact List.mem_of_getElem? h1)
    rw [upd_ne hn]; exact h.at_ i a r h1 h2, h.nd, h.rl⟩
theorem LB.snoc {H : Hp} {m : Nat} {as : List Addr} {T : Tbl} {a : Addr} {r : List Int} (h : LB H m as T) (ha : a ∉ as) (hr : H a = some (.lst (r.map V.int))) (hl : r.length = m) : LB H m (as ++ [a]) (T ++ [r]) := by
  refine ⟨by rw [List.length_append, List.length_append, h.len]; rfl, fun i b r' h1 h2 => ?_, ?_, fun r' hr' => ?_⟩
  · by_cases z : i < as.length
    · rw [List.getElem?_append_left z] at h1
      rw [List.getElem?_append_left (by rw [← h.len]; exact z)] at h2
      exact h.at_ i b r' h1 h2
    · have hi : i < (as ++ [a]).length := (List.getElem?_eq_some_iff.mp h1).1
      rw [List.length_append, List.length_singleton] at hi
      have ei : i = as.length := by omega
      rw [ei, List.getElem?_append_right (Nat.le_refl _), Nat.sub_self] at h1
      rw [ei, h.len, List.getElem?_append_right (Nat.le_refl _), Nat.sub_self] at h2
      rw [← Option.some.inj h1, ← Option.some.inj h2]
      exact hr
  · refine List.nodup_append.mpr ⟨h.nd, List.pairwise_singleton _ _, fun b hb c hc e => ?_⟩
    rw [List.mem_singleton.mp hc] at e
    exact ha (by rw [← e]; exact hb)
  · rcases List.mem_append.mp hr' with hr' | hr'
    · exact h.rl r' hr'
    · rw [List.mem_singleton.mp hr']; exact hl
theorem LB.set {H : Hp} {m i : Nat} {as : List Addr} {T : Tbl} {a : Addr} {r : List Int} (h : LB H m as T) (e : as[i]? = some a) (hr : r.length = m) : LB (upd H a (.lst (r.map V.int))) m as (T.set i r) := by
  have hi : i < as.length := (List.getElem?_eq_some_iff.mp e).1
  refine ⟨by rw [List.length_set]; exact h.len, fun j b r' h1 h2 => ?_, h.nd, fun r' hr' => ?_⟩
  · by_cases z : j = i
    · subst z
      rw [e] at h1
      rw [List.getElem?_set_self (by rw [← h.len]; exact hi)] at h2
      rw [← Option.some.inj h1, ← Option.some.inj h2, upd_same]
    · rw [List.getElem?_set_ne (Ne.symm z)] at h2
      have hne : b ≠ a := fun w => by
        obtain ⟨hj, ej⟩ := List.getElem?_eq_some_iff.mp h1
        obtain ⟨_, ei⟩ := List.getElem?_eq_some_iff.mp e
        refine z ((List.getElem_inj h.nd).mp (?_ : as[j] = as[i]))
        rw [ej, ei, w]
      rw [upd_ne hne]
      exact h.at_ j b r' h1 h2
  · rcases List.mem_or_eq_of_mem_set hr' with hr' | rfl
    · exact h.rl r' hr'
    · exact hr
theorem LB.fresh {H : Hp} {m : Nat} {as : List Addr} {T : Tbl} {a : Addr} (h : LB H m as T) (e : H a = Option.none) : a ∉ as := fun hc => by
  obtain ⟨i, hi⟩ := List.getElem?_of_mem hc
  obtain ⟨r, _, hr, _⟩ := h.get hi
  rw [e] at hr
  cases hr
/-- all but the rows stay -/
def Off (as : List Addr) (H H' : Hp) : Prop := ∀ c o, H c = some o → c ∉ as → H' c = some o
theorem Off.refl (as : List Addr) (H : Hp) : Off as H H := fun _ _ h _ => h
theorem Off.put {as : List Addr} {H H' : Hp} {a : Addr} {o : HO} (e : Off as H H') (h : a ∈ as) : Off as H (upd H' a o) := fun c u e1 n => by
  have hn : c ≠ a := fun z => n (by rw [z]; exact h)
  rw [upd_ne hn]; exact e c u e1 n
theorem Off.same {as : List Addr} {H H7 H8 : Hp} (o : Off as H7 H8) (s : Same H H7) (n : ∀ a ∈ as, H a = none) : Same H H8 := fun c ob e => o c ob (s c ob e) fun z => by
  rw [n c z] at e
  cases e
theorem sorted_two {x y : Int} {ns : List Int} (h : ns.Perm [x, y]) (hs : ns.Pairwise (· ≤ ·)) : ns = [min x y, max x y] := by
  have hl : ns.length = 2 := h.length_eq
  match ns, hl, h, hs with
  | [a, b], _, h, hs =>
    have hab : a ≤ b := (List.pairwise_cons.mp hs).1 b (List.mem_singleton.mpr rfl)
    have h1 : a ∈ [x, y] := h.mem_iff.mp (List.mem_cons_self ..)
    have h2 : b ∈ [x, y] := h.mem_iff.mp (List.mem_cons_of_mem _ (List.mem_cons_self ..))
    have h3 : x ∈ [a, b] := h.mem_iff.mpr (List.mem_cons_self ..)
    have h4 : y ∈ [a, b] := h.mem_iff.mpr (List.mem_cons_of_mem _ (List.mem_cons_self ..))
    simp only [List.mem_cons, List.not_mem_nil, or_false] at h1 h2 h3 h4
    have e1 : a = min x y := by omega
    have e2 : b = max x y := by omega
    rw [e1, e2]
theorem next_set {f : List Int → List Int} {T : Tbl} {k : Nat} {r : List Int} (e : T[k]? = some r) : ((T.take k).map f ++ T.drop k).set k (f r) = (T.take (k + 1)).map f ++ T.drop (k + 1) ∧ (f r = r → (T.take k).map f ++ T.drop k = (T.take (k + 1)).map f ++ T.drop (k + 1)) ∧ ((T.take k).map f ++ T.drop k)[k]? = some r := by
  obtain ⟨hk, er⟩ := List.getElem?_eq_some_iff.mp e
  have lt1 : ((T.take k).map f).length = k := by rw [List.length_map, List.length_take]; omega
  refine ⟨?_, fun h => ?_, ?_⟩
  · rw [List.set_append_right _ _ (by omega), lt1, Nat.sub_self, List.drop_eq_getElem_cons hk, List.set_cons_zero, List.take_succ, e, List.map_append, List.append_assoc]
    rfl
  · rw [List.drop_eq_getElem_cons hk, List.take_succ, e, List.map_append, List.append_assoc, er]
    show _ ++ r :: _ = _ ++ f r :: _
    rw [h]
    rfl
  · rw [List.getElem?_append_right (by omega), lt1, Nat.sub_self, List.getElem?_drop, Nat.add_zero]
    exact e
def intsS (p : Stp) : List Int := [(p.1 : Int), (p.2.1 : Int), (p.2.2.1 : Int), (p.2.2.2 : Int)]
theorem Steps4.tb {H : Hp} : ∀ {sw : List SW4}, Steps4 H sw → TB H 4 (sw.map (·.1)) ((sw.map (·.2)).map intsS)
  | sw, h => by
    refine ⟨by rw [List.length_map, List.length_map, List.length_map], fun i t r h1 h2 => ?_, fun r hr => ?_⟩
    · rw [List.getElem?_map] at h1
      rw [List.getElem?_map, List.getElem?_map] at h2
      cases e : sw[i]? with
      | none => rw [e] at h1; cases h1
      | some w =>
        rw [e] at h1 h2
        rw [← Option.some.inj h1, ← Option.some.inj h2]
        exact h w (List.mem_of_getElem? e)
    · obtain ⟨p, _, rfl⟩ := List.mem_map.mp hr
      rfl
def dTabS (T S : Tbl) : PyData := .tuple [.list (T.map dRow), .list (S.map dRow)]
theorem tabS_eq (T S : Tbl) : same (dTabS T S) (dTabS T S) = true ∧ SeqAt.noMix (dTabS T S) (dTabS T S) = true ∧ SeqAt.shaped (dTabS T S) = true := by
  have h : ∀ T : Tbl, sameAll (T.map dRow) (T.map dRow) = true := fun T => by rw [sameAll_map same_dRow]; exact decide_eq_true rfl
  have n : ∀ T : Tbl, SeqAt.noMixAll (T.map dRow) (T.map dRow) = true := fun T => noMixAll_map noMix_dRow _ _
  have c : ∀ T : Tbl, PyData.canLayAll0 (T.map dRow) = true := fun T => canLayAll_map canLay_dRow _
  have d1 : PyData.depthAll (T.map dRow) ≤ 10 := depthAll_map depth_dRow _
  have d2 : PyData.depthAll (S.map dRow) ≤ 10 := depthAll_map depth_dRow _
  unfold dTabS
  refine ⟨?_, ?_, ?_⟩
  · simp only [same, sameAll, h]
    simp
  · simp only [SeqAt.noMix, SeqAt.noMixAll, n]
    simp
  · show (PyData.canLay0 _ && decide (PyData.depth _ ≤ 64)) = true
    rw [Bool.and_eq_true]
    refine ⟨?_, decide_eq_true ?_⟩
    · simp only [PyData.canLay0, PyData.canLayAll0, c]
      decide +kernel
    · simp only [PyData.depth, PyData.depthAll]
      omega
theorem tabS_dv {K : PySem.W.Frag} {H : Hp} {m n : Nat} {t tl sl : Addr} {ts us : List Addr} {T S : Tbl} (ht : H t = some (.tup [.ref tl, .ref sl])) (htl : H tl = some (.lst (ts.map V.ref))) (hT : TB H m ts T) (hsl : H sl = some (.lst (us.map V.ref))) (hS : TB H n us S) : DV K H (.ref t) (dTabS T S) :=
  .tup (SqT.of ht) (.cons (.lst (SqL.of htl) (rows_dvs hT.len hT.at_)) (.cons (.lst (SqL.of hsl) (rows_dvs hS.len hS.at_)) .nil))
end L2

namespace L2
open PySem PySem.Spec PyProof.Rows
/-! ### what a filled table tells, by all tables that keep the rules (k57, k58, k59) -/
/-- a table that keeps the settling rules, each row as z at its part -/
structure TMod (m : Nat) (rs : List RD) (ps : List Nat) (z : Nat → Int) (g : Nat → Nat → Int) : Prop where
  own : ∀ i p, ps[i]? = some p → ∀ c, c < m → HasB p c → g i c = z c
  keep : ∀ r ∈ rs, r.1 = true → ∀ i j, i < ps.length → j < ps.length → (∀ c, c < m → HasB r.2.1 c → g i c = g j c) → ∀ c, c < m → HasB r.2.2 c → g i c = g j c
def cellT (T : Tbl) (i c : Nat) : Int := (rowT T i).getD c 0
structure Fits (m n : Nat) (T : Tbl) (z : Nat → Int) (g : Nat → Nat → Int) : Prop where
  eq : ∀ i j c, i < n → j < n → c < m → cellT T i c = cellT T j c → g i c = g j c
  nought : ∀ i c, i < n → c < m → cellT T i c = 0 → g i c = z c
theorem alikeL_iff {m s : Nat} {r1 r2 : List Int} (m7 : m ≤ 7) (hs : s < 2 ^ m) : alikeL r1 r2 s = true ↔ ∀ c, c < m → HasB s c → r1.getD c 0 = r2.getD c 0 := by
  have p7 := pow7 m7
  have cm := cols_mem (a := s) (by omega)
  unfold alikeL
  rw [List.all_map, List.all_eq_true]
  constructor
  · intro h c _ hc
    exact of_decide_eq_true (h c ((cm c).mpr hc))
  · intro h c hc
    have hb := (cm c).mp hc
    exact decide_eq_true (h c (hasb_lt hs hb) hb)
theorem beg_cell {m i c p : Nat} {ps : List Nat} (m7 : m ≤ 7) (hc : c < m) (hp : p < 2 ^ m) (e : ps[i]? = some p) : cellT (begT m ps) i c = if p.testBit c = true then 0 else ((i + 1 : Nat) : Int) := by
  have p7 := pow7 m7
  have hi : i < ps.length := (List.getElem?_eq_some_iff.mp e).1
  have er : (begT m ps)[i]? = some (begRow m i p) := by
    unfold begT begK
    rw [List.getElem?_map, range_get2 hi]
    show some (begRow m i (ps.getD i 0)) = _
    rw [List.getD_eq_getElem?_getD, e]; rfl
  unfold cellT
  rw [rowT_of er, begRow_get hc, hasb_test p (by omega) c (by omega)]
theorem fits_beg {m : Nat} {rs : List RD} {ps : List Nat} {z : Nat → Int} {g : Nat → Nat → Int} (m7 : m ≤ 7) (hps : ∀ p ∈ ps, p < 2 ^ m) (M : TMod m rs ps z g) : Fits m ps.length (begT m ps) z g := by
  have key : ∀ i, i < ps.length → ∃ p, ps[i]? = some p ∧ p < 2 ^ m := fun i hi => ⟨ps[i], List.getElem?_eq_getElem hi, hps _ (List.getElem_mem hi)⟩
  refine ⟨fun i j c hi hj hc e => ?_, fun i c hi hc e => ?_⟩
  · obtain ⟨p, ep, hp⟩ := key i hi
    obtain ⟨u, eu, hu⟩ := key j hj
    rw [beg_cell m7 hc hp ep, beg_cell m7 hc hu eu] at e
    split at e
    · rename_i h1
      split at e
      · rename_i h2
        rw [M.own i p ep c hc h1, M.own j u eu c hc h2]
      · omega
    · split at e
      · omega
      · have : i = j := by omega
        rw [this]
  · obtain ⟨p, ep, hp⟩ := key i hi
    rw [beg_cell m7 hc hp ep] at e
    split at e
    · rename_i h1
      exact M.own i p ep c hc h1
    · omega
theorem cell_even {T : Tbl} {p : Stp} {i c : Nat} {m : Nat} {ri rj : List Int} (hl : ∀ r ∈ T, r.length = m) (hi : i < T.length) (hc : c < m) (hp : p.2.2.2 < m) (es : stepT T p = T.map (evenRow p.2.2.2 (ri.getD p.2.2.2 0) (rj.getD p.2.2.2 0))) :
    cellT (stepT T p) i c = if c = p.2.2.2 ∧ cellT T i c = max (ri.getD p.2.2.2 0) (rj.getD p.2.2.2 0) then min (ri.getD p.2.2.2 0) (rj.getD p.2.2.2 0) else cellT T i c := by
  have e1 : T[i]? = some T[i] := List.getElem?_eq_getElem hi
  have e2 : (stepT T p)[i]? = some (evenRow p.2.2.2 (ri.getD p.2.2.2 0) (rj.getD p.2.2.2 0) T[i]) := by rw [es, List.getElem?_map, e1]; rfl
  have hm := hl T[i] (List.getElem_mem hi)
  unfold cellT
  rw [rowT_of e2, rowT_of e1]
  unfold evenRow
  by_cases ec : c = p.2.2.2
  · subst ec
    by_cases h : T[i].getD p.2.2.2 0 = max (ri.getD p.2.2.2 0) (rj.getD p.2.2.2 0)
    · rw [if_pos h, if_pos ⟨rfl, h⟩, List.getD_eq_getElem?_getD, List.getElem?_set_self (by omega)]
      rfl
    · rw [if_neg h, if_neg fun w => h w.2]
  · have h2 : ¬ (c = p.2.2.2 ∧ T[i].getD c 0 = max (ri.getD p.2.2.2 0) (rj.getD p.2.2.2 0)) := fun w => ec w.1
    rw [if_neg h2]
    by_cases h : T[i].getD p.2.2.2 0 = max (ri.getD p.2.2.2 0) (rj.getD p.2.2.2 0)
    · rw [if_pos h, List.getD_eq_getElem?_getD, List.getElem?_set_ne (Ne.symm ec), ← List.getD_eq_getElem?_getD]
    · rw [if_neg h]
theorem fits_step {m n : Nat} {rs : List RD} {ps : List Nat} {T0 T : Tbl} {ss : List Stp} {p : Stp} {z : Nat → Int} {g : Nat → Nat → Int} (m7 : m ≤ 7) (hrs : Rules m rs) (A : TAt m rs T0 ss T n) (hn : T.length = ps.length) (M : TMod m rs ps z g) (F : Fits m ps.length T z g) (h : firstS T rs = some p) : Fits m ps.length (stepT T p) z g := by
  obtain ⟨ri, rj, x, y, S⟩ := firstS_some h
  have hr := List.mem_of_getElem? S.rule
  obtain ⟨hc0, _⟩ := unlN_some (hrs _ hr).2 m7 S.un
  have p7 := pow7 m7
  have hi0 : p.2.1 < ps.length := by rw [← hn]; exact (List.getElem?_eq_some_iff.mp S.ei).1
  have hj0 : p.2.2.1 < ps.length := by rw [← hn]; exact (List.getElem?_eq_some_iff.mp S.ej).1
  have ci : cellT T p.2.1 p.2.2.2 = ri.getD p.2.2.2 0 := by unfold cellT; rw [rowT_of S.ei]
  have cj : cellT T p.2.2.1 p.2.2.2 = rj.getD p.2.2.2 0 := by unfold cellT; rw [rowT_of S.ej]
  have hyb : HasB y p.2.2.2 := (cols_mem (a := y) (by have : y < 2 ^ m := (hrs _ hr).2; omega) _).mp (List.mem_of_find?_eq_some S.un)
  have gij : g p.2.1 p.2.2.2 = g p.2.2.1 p.2.2.2 := by
    refine M.keep _ hr rfl _ _ hi0 hj0 (fun c hc hb => ?_) _ hc0 hyb
    refine F.eq _ _ c hi0 hj0 hc ?_
    have e9 : ri.getD c 0 = rj.getD c 0 := (alikeL_iff m7 (hrs _ hr).1).mp S.al c hc hb
    unfold cellT
    rw [rowT_of S.ei, rowT_of S.ej, e9]
  have es : stepT T p = T.map (evenRow p.2.2.2 (ri.getD p.2.2.2 0) (rj.getD p.2.2.2 0)) := by unfold stepT; rw [rowT_of S.ei, rowT_of S.ej]
  have cv := fun i c (hi : i < ps.length) (hc : c < m) => cell_even (ri := ri) (rj := rj) A.rl (i := i) (c := c) (by rw [hn]; exact hi) hc hc0 es
  -- a cell of one of the two numbers has the value that both have
  have two : ∀ i, i < ps.length → (cellT T i p.2.2.2 = ri.getD p.2.2.2 0 ∨ cellT T i p.2.2.2 = rj.getD p.2.2.2 0) → g i p.2.2.2 = g p.2.1 p.2.2.2 := fun i hi w => by
    rcases w with w | w
    · exact F.eq _ _ _ hi hi0 hc0 (by rw [w, ci])
    · rw [gij]; exact F.eq _ _ _ hi hj0 hc0 (by rw [w, cj])
  refine ⟨fun i j c hi hj hc e => ?_, fun i c hi hc e => ?_⟩
  · rw [cv i c hi hc, cv j c hj hc] at e
    by_cases ec : c = p.2.2.2
    · subst ec
      by_cases h1 : cellT T i p.2.2.2 = max (ri.getD p.2.2.2 0) (rj.getD p.2.2.2 0)
      · rw [if_pos ⟨rfl, h1⟩] at e
        have t1 := two i hi (by omega)
        by_cases h2 : cellT T j p.2.2.2 = max (ri.getD p.2.2.2 0) (rj.getD p.2.2.2 0)
        · rw [t1, two j hj (by omega)]
        · rw [if_neg fun w => h2 w.2] at e
          rw [t1, two j hj (by omega)]
      · rw [if_neg fun w => h1 w.2] at e
        by_cases h2 : cellT T j p.2.2.2 = max (ri.getD p.2.2.2 0) (rj.getD p.2.2.2 0)
        · rw [if_pos ⟨rfl, h2⟩] at e
          rw [two i hi (by omega), two j hj (by omega)]
        · rw [if_neg fun w => h2 w.2] at e
          exact F.eq i j _ hi hj hc e
    · rw [if_neg fun w => ec w.1, if_neg fun w => ec w.1] at e
      exact F.eq i j c hi hj hc e
  · rw [cv i c hi hc] at e
    split at e
    · rename_i w
      obtain ⟨rfl, w⟩ := w
      rw [two i hi (by omega)]
      by_cases q : ri.getD p.2.2.2 0 = 0
      · exact F.nought _ _ hi0 hc0 (by rw [ci]; exact q)
      · rw [gij]; exact F.nought _ _ hj0 hc0 (by rw [cj]; omega)
    · exact F.nought i c hi hc e
theorem fits_run {m : Nat} {rs : List RD} {ps : List Nat} {T0 : Tbl} {z : Nat → Int} {g : Nat → Nat → Int} (m7 : m ≤ 7) (hrs : Rules m rs) (h0 : T0.length = ps.length) (M : TMod m rs ps z g) : ∀ (n : Nat) (T : Tbl) (ss : List Stp), TAt m rs T0 ss T n → Fits m ps.length T z g → Fits m ps.length (runT rs n T).1 z g ∧ firstS (runT rs n T).1 rs = none
  | 0, T, ss, A, F => by
    refine ⟨F, ?_⟩
    cases e : firstS T rs with
    | none => exact e
    | some p =>
      obtain ⟨_, n', hn, _⟩ := A.next m7 hrs e
      omega
  | n + 1, T, ss, A, F => by
    unfold runT
    cases e : firstS T rs with
    | none => exact ⟨F, e⟩
    | some p =>
      obtain ⟨_, n', hn, A'⟩ := A.next m7 hrs e
      have : n = n' := by omega
      subst this
      exact fits_run m7 hrs h0 M n (stepT T p) _ A' (fits_step m7 hrs A (by rw [A.ln]; exact h0) M F e)
theorem firstS_none {T : Tbl} {rs : List RD} (h : firstS T rs = none) {r : RD} (hr : r ∈ rs) (h1 : r.1 = true) {i j : Nat} (hij : i < j) (hj : j < T.length) (al : alikeL (rowT T i) (rowT T j) r.2.1 = true) : unlN (rowT T i) (rowT T j) r.2.2 = none := by
  obtain ⟨k, hk⟩ := List.getElem?_of_mem hr
  have h2 := List.findSome?_eq_none_iff.mp h k (List.mem_range.mpr (List.getElem?_eq_some_iff.mp hk).1)
  obtain ⟨st, x, y⟩ := r
  have h1' : st = true := h1
  subst h1'
  unfold tryS at h2
  rw [hk] at h2
  have h3 : firstP T x y = none := Option.map_eq_none_iff.mp h2
  have h4 := List.findSome?_eq_none_iff.mp h3 i (List.mem_range.mpr (by omega))
  have h5 := List.findSome?_eq_none_iff.mp h4 j (List.mem_range'.mpr ⟨j - (i + 1), by omega, by omega⟩)
  unfold tryP at h5
  rw [if_pos al] at h5
  exact Option.map_eq_none_iff.mp h5
theorem begT_len (m : Nat) (ps : List Nat) : (begT m ps).length = ps.length := by unfold begT begK; rw [List.length_map, List.length_range]
/-- the filled table keeps the rules, and each row's own part is noughts -/
theorem run_mod {m : Nat} {rs : List RD} {ps : List Nat} (m7 : m ≤ 7) (hrs : Rules m rs) (hps : ∀ p ∈ ps, p < 2 ^ m) (lp : ps.length ≤ 10) :
    TMod m rs ps (fun _ => 0) (cellT (runT rs 1000 (begT m ps)).1) ∧ (runT rs 1000 (begT m ps)).1.length = ps.length ∧ ∀ r ∈ (runT rs 1000 (begT m ps)).1, r.length = m := by
  have A0 := begT_at (m := m) (rs := rs) lp m7
  have low0 : LowT m (begT m ps) (begT m ps) := ⟨rfl, fun i r u h1 h2 c hc => by
    rw [h1] at h2
    rw [← Option.some.inj h2]
    have hrm := List.mem_of_getElem? h1
    exact ⟨A0.nn r hrm _ (L2.getD_mem (by rw [A0.rl r hrm]; exact hc)), Int.le_refl _⟩⟩
  obtain ⟨low, hl⟩ := run_low m7 hrs 1000 (begT m ps) (begT m ps) A0.rl A0.nn low0
  have triv : TMod m rs ps (fun _ => 0) (fun _ _ => 0) := ⟨fun _ _ _ _ _ _ => rfl, fun _ _ _ _ _ _ _ _ _ _ _ => rfl⟩
  obtain ⟨_, stop⟩ := fits_run m7 hrs (begT_len m ps) triv 1000 (begT m ps) [] A0 (fits_beg m7 hps triv)
  have ln : (runT rs 1000 (begT m ps)).1.length = ps.length := low.1.trans (begT_len m ps)
  generalize (runT rs 1000 (begT m ps)).1 = T at low stop ln hl
  have sym : ∀ r ∈ rs, r.1 = true → ∀ i j, i < j → j < ps.length → (∀ c, c < m → HasB r.2.1 c → cellT T i c = cellT T j c) → ∀ c, c < m → HasB r.2.2 c → cellT T i c = cellT T j c := fun r hr h1 i j hij hj hal c hc hb => by
    have h2 := firstS_none stop hr h1 hij (by omega) ((alikeL_iff m7 (hrs r hr).1).mpr hal)
    exact (alikeL_iff m7 (hrs r hr).2).mp (alike_unl.mpr h2) c hc hb
  refine ⟨⟨fun i p ep c hc hb => ?_, fun r hr h1 i j hi hj hal c hc hb => ?_⟩, ln, ?_⟩
  · have hi : i < ps.length := (List.getElem?_eq_some_iff.mp ep).1
    have e1 : T[i]? = some T[i] := List.getElem?_eq_getElem (by omega)
    have e2 : (begT m ps)[i]? = some ((begT m ps)[i]'(by rw [begT_len]; exact hi)) := List.getElem?_eq_getElem _
    have h3 := low.2 i _ _ e1 e2 c hc
    have h4 := beg_cell m7 hc (hps p (List.mem_of_getElem? ep)) ep
    unfold cellT at h4
    have hb' : p.testBit c = true := hb
    rw [rowT_of e2, if_pos hb'] at h4
    unfold cellT
    rw [rowT_of e1]
    omega
  · rcases Nat.lt_trichotomy i j with h | h | h
    · exact sym r hr h1 i j h hj hal c hc hb
    · rw [h]
    · exact (sym r hr h1 j i h hi (fun c hc hb => (hal c hc hb).symm) c hc hb).symm
  · exact hl
end L2

namespace L2
open PySem PySem.Spec PyProof.Rows
/-! ### k55: a column's kinds, counted by a set -/
def kindsL (ns : List Int) : List Int := PyProof.Rows.firstMet (fun i => ns.getD i 0) ns.length
theorem range_getD (ns : List Int) : (List.range ns.length).map (fun i => ns.getD i 0) = ns := by
  refine List.ext_getElem (by rw [List.length_map, List.length_range]) fun i h1 h2 => ?_
  rw [List.getElem_map, List.getElem_range, List.getD_eq_getElem?_getD, List.getElem?_eq_getElem h2]; rfl
theorem kinds_mem (ns : List Int) (k : Int) : k ∈ kindsL ns ↔ k ∈ ns := by
  have h := PyProof.Rows.firstMet_any (fun i => ns.getD i 0) ns.length k
  rw [range_getD] at h
  have go : ∀ l : List Int, l.any (· == k) = true ↔ k ∈ l := fun l => by
    rw [List.any_eq_true]
    exact ⟨fun ⟨x, h1, h2⟩ => by rw [← beq_iff_eq.mp h2]; exact h1, fun h1 => ⟨k, h1, beq_self_eq_true k⟩⟩
  unfold kindsL
  rw [← go, h, go]
theorem kinds_nd (ns : List Int) : (kindsL ns).Nodup := by
  unfold kindsL
  generalize ns.length = n
  induction n with
  | zero => exact List.Pairwise.nil
  | succ n ih =>
    rw [PyProof.Rows.firstMet_succ]
    unfold PyProof.Rows.step_dedup
    split
    · exact ih
    · rename_i h
      refine List.nodup_append.mpr ⟨ih, List.pairwise_singleton _ _, fun a ha b hb e => h (List.any_eq_true.mpr ⟨a, ha, ?_⟩)⟩
      rw [e, List.mem_singleton.mp hb]
      exact beq_self_eq_true _
theorem nd_le : ∀ {A B : List Int}, A.Nodup → (∀ x ∈ A, x ∈ B) → A.length ≤ B.length
  | [], _, _, _ => Nat.zero_le _
  | a :: A, B, hn, h => by
    have hn' := List.nodup_cons.mp hn
    have ha := h a List.mem_cons_self
    have h1 := nd_le (B := B.erase a) hn'.2 fun x hx => (List.mem_erase_of_ne (fun e => hn'.1 (by rw [← e]; exact hx))).mpr (h x (List.mem_cons_of_mem _ hx))
    rw [List.length_erase_of_mem ha] at h1
    have : 0 < B.length := List.length_pos_of_mem ha
    rw [List.length_cons]; omega
/-- one kind put to another: a kind less -/
theorem kinds_even {ns : List Int} {lo hi : Int} (h1 : lo ∈ ns) (h2 : hi ∈ ns) (ne : lo ≠ hi) : (kindsL (ns.map fun v => if v = hi then lo else v)).length + 1 = (kindsL ns).length := by
  have mem : ∀ x, x ∈ kindsL (ns.map fun v => if v = hi then lo else v) ↔ x ∈ ns ∧ x ≠ hi := fun x => by
    rw [kinds_mem, List.mem_map]
    constructor
    · rintro ⟨v, hv, rfl⟩
      by_cases e : v = hi
      · rw [if_pos e]; exact ⟨h1, ne⟩
      · rw [if_neg e]; exact ⟨hv, e⟩
    · rintro ⟨hx, hn⟩
      exact ⟨x, hx, if_neg hn⟩
  have nd : (hi :: kindsL (ns.map fun v => if v = hi then lo else v)).Nodup := List.nodup_cons.mpr ⟨fun z => ((mem hi).mp z).2 rfl, kinds_nd _⟩
  have a := nd_le (B := kindsL ns) nd fun x hx => by
    rcases List.mem_cons.mp hx with rfl | hx
    · exact (kinds_mem ns _).mpr h2
    · exact (kinds_mem ns x).mpr ((mem x).mp hx).1
  have b := nd_le (A := kindsL ns) (B := hi :: kindsL (ns.map fun v => if v = hi then lo else v)) (kinds_nd ns) fun x hx => by
    by_cases e : x = hi
    · rw [e]; exact List.mem_cons_self
    · exact List.mem_cons_of_mem _ ((mem x).mpr ⟨(kinds_mem ns x).mp hx, e⟩)
  rw [List.length_cons] at a b
  omega
theorem kinds_len (ns : List Int) : (kindsL ns).length ≤ ns.length := PyProof.Rows.firstMet_length_le _ _
/-! the steps of a run, one by one -/
theorem run_at {rs : List RD} : ∀ (n : Nat) (T : Tbl) (i : Nat) (p : Stp), (runT rs n T).2[i]? = some p → firstS (((runT rs n T).2.take i).foldl stepT T) rs = some p
  | 0, T, i, p, h => by cases h
  | n + 1, T, i, p, h => by
    rw [runT] at h ⊢
    cases e : firstS T rs with
    | none => rw [e] at h; cases h
    | some q =>
      rw [e] at h
      cases i with
      | zero =>
        have : some q = some p := h
        rw [← this]; exact e
      | succ i => exact run_at n (stepT T q) i p h
theorem run_fold {rs : List RD} : ∀ (n : Nat) (T : Tbl), (runT rs n T).2.foldl stepT T = (runT rs n T).1
  | 0, T => rfl
  | n + 1, T => by
    rw [runT]
    cases e : firstS T rs with
    | none => rfl
    | some q => exact run_fold n (stepT T q)
theorem run_none {rs : List RD} (h : ∀ T, firstS T rs = none) (n : Nat) (T : Tbl) : (runT rs n T).2 = [] := by
  cases n with
  | zero => rfl
  | succ n => rw [runT, h T]
/-- a rule told again at the end tells nothing more -/
theorem first_again {T : Tbl} {rs : List RD} {r : RD} (h : r ∈ rs) : firstS T (rs ++ [r]) = firstS T rs := by
  unfold firstS
  rw [List.length_append, show [r].length = 1 from rfl, List.range_succ, List.findSome?_append]
  have low : ∀ k, k < rs.length → tryS T (rs ++ [r]) k = tryS T rs k := fun k hk => by
    unfold tryS
    rw [List.getElem?_append_left hk]
  have e1 : (List.range rs.length).findSome? (tryS T (rs ++ [r])) = (List.range rs.length).findSome? (tryS T rs) := by
    have go : ∀ l : List Nat, (∀ k ∈ l, k < rs.length) → l.findSome? (tryS T (rs ++ [r])) = l.findSome? (tryS T rs) := fun l => by
      induction l with
      | nil => exact fun _ => rfl
      | cons a l ih =>
        intro hl
        rw [List.findSome?_cons, List.findSome?_cons, low a (hl a List.mem_cons_self), ih fun k hk => hl k (List.mem_cons_of_mem _ hk)]
    exact go _ fun k hk => List.mem_range.mp hk
  rw [e1]
  cases e : (List.range rs.length).findSome? (tryS T rs) with
  | some p => rfl
  | none =>
    obtain ⟨i, hi⟩ := List.getElem?_of_mem h
    have hil : i < rs.length := (List.getElem?_eq_some_iff.mp hi).1
    have h0 := List.findSome?_eq_none_iff.mp e i (List.mem_range.mpr hil)
    have h1 : (rs ++ [r])[rs.length]? = some r := by rw [List.getElem?_append_right (Nat.le_refl _), Nat.sub_self]; rfl
    have h2 : tryS T (rs ++ [r]) rs.length = none := by
      unfold tryS at h0 ⊢
      rw [hi] at h0
      rw [h1]
      obtain ⟨st, x, y⟩ := r
      revert h0
      cases st with
      | false => exact fun _ => rfl
      | true =>
        show (firstP T x y).map _ = none → (firstP T x y).map _ = none
        rw [Option.map_eq_none_iff, Option.map_eq_none_iff]
        exact id
    show ([rs.length].findSome? (tryS T (rs ++ [r]))) = none
    rw [List.findSome?_cons, h2]; rfl
theorem run_again {rs : List RD} {r : RD} (h : r ∈ rs) : ∀ (n : Nat) (T : Tbl), runT (rs ++ [r]) n T = runT rs n T
  | 0, T => rfl
  | n + 1, T => by
    rw [runT, runT, first_again h]
    cases firstS T rs with
    | none => rfl
    | some p =>
      show ((runT (rs ++ [r]) n (stepT T p)).1, p :: (runT (rs ++ [r]) n (stepT T p)).2) = _
      rw [run_again h n]
section
variable {X : Cx} {K : PySem.W.Frag}
/-- set(a list of whole numbers) -/
theorem call_setI (h : X.K = K) (hc : X.calm = true) : CallR X (.type "set") (fun xs H Q => ∃ (p : Addr) (ns : List Int), xs = [.ref p] ∧ SqL K H p (ns.map V.int) ∧ ns.length ≤ 100 ∧ ∀ l S, H l = none → Q (.ref l) (upd H l (.set S (kindsL ns).length))) := by
  subst h
  intro pins s σ H xs us Q I r h
  obtain ⟨p, ns, rfl, hq, hl, q⟩ := h
  obtain ⟨u, rfl, rx⟩ := vals1 r
  cases rx
  obtain ⟨its, rv, pl, hz⟩ := I.list hq
  have ln : its.length = ns.length := by rw [← rv.length, List.length_map]
  have lz : its.toArray.size = ns.length := by rw [List.size_toArray, ln]
  refine call_set_list (I.ok.hd hc) pl.isList (intsAre_of rv) (by rw [lz]; exact Nat.lt_of_le_of_lt (Nat.succ_le_succ hl) (by decide)) fun h' tk hs k => ?_
  rw [lz] at hs
  exact ⟨.ref s.heap.objs.size, _, I.laid (t' := tk) (fun b o e => k b o (Heap.lt_size e) e) (Nat.le_refl _) (show ObjOk X.prog X.w _ h' _ (.set _ (kindsL ns).length) from hs), rfl, q _ _ I.fresh⟩
/-- len(a set) -/
theorem call_lenS : CallR X (.builtin "len") (fun xs H Q => ∃ (p : Addr) (S : Int → Bool) (n : Nat), xs = [.ref p] ∧ H p = some (.set S n) ∧ n ≤ 100 ∧ Q (.int (n : Int)) H) := by
  intro pins s σ H xs us Q I r h
  obtain ⟨p, S, n, rfl, hp, hn, q⟩ := h
  obtain ⟨u, rfl, rx⟩ := vals1 r
  cases rx
  obtain ⟨o, es, ep, t, h1, h2, h3, _, _, _, h7, h8⟩ := (show ObjOk X.prog X.w H s.heap p (.set S n) from I.hok p _ hp)
  subst h8
  exact call_len_set h1 h2 h3 h7 (by omega) ⟨.int _, H, I.tok _, ⟨_, rfl⟩, q⟩
/-- a op1 b op2 c op3 d, as a test -/
def tChain3 (r r' r2 : R2) (ta tb tc td : TE) : TT := fun σ H Q => ta σ H fun x H1 => tb σ H1 fun y H2 => r x y H2 fun z H3 => ∃ k, z = .bl k ∧
  (if k = true then tc σ H3 fun w' H4 => r' y w' H4 fun z2 H5 => ∃ k2, z2 = .bl k2 ∧ (if k2 = true then td σ H5 fun v H6 => r2 w' v H6 fun z3 H7 => ∃ k3, z3 = .bl k3 ∧ Q k3 H7 else Q false H5) else Q false H3)
theorem pt_chain3 {op op' op2 : CmpOp} {r r' r2 : R2} {a b c d : Expr} {ta tb tc td : TE} {pos : Pos} (ho : OpR X (compareOp op) r) (ho' : OpR X (compareOp op') r') (ho2 : OpR X (compareOp op2) r2) (ha : PE X a ta) (hb : PE X b tb) (hc : PE X c tc) (hd : PE X d td)
    (hm : lastMarks [op, op', op2] [b, c, d] = false := by with_unfolding_all rfl) : PT X (.Compare a [op, op', op2] [b, c, d] pos) (tChain3 r r' r2 ta tb tc td) := by
  intro pins s σ H Q I h
  refine isTrue_chain (thn (ha pins s σ H _ I h) fun v s1 ⟨x, H1, I1, r1, q1⟩ => test_link (thn (hb pins s1 σ H1 _ I1 q1) fun u s2 ⟨y, H2, I2, ry, q2⟩ =>
    thn (ho pins s2 σ H2 x y v u _ I2 r1 ry q2) fun d1 s3 ⟨z, H3, I3, r3, k, e, q3⟩ => ?_)) hm
  subst e
  cases r3
  refine wpAny_truthy_bool ?_
  cases k with
  | false => exact ite_ff ⟨H3, I3, q3⟩
  | true =>
    refine ite_tt (test_link (thn (hc pins s3 σ H3 _ I3 q3) fun w' s4 ⟨z', H4, I4, r4, q4⟩ => thn (ho' pins s4 σ H4 y z' u w' _ I4 ry r4 q4) fun d2 s5 ⟨z2, H5, I5, r5, k2, e2, q5⟩ => ?_))
    subst e2
    cases r5
    refine wpAny_truthy_bool ?_
    cases k2 with
    | false => exact ite_ff ⟨H5, I5, q5⟩
    | true =>
      refine ite_tt (test_last (thn (hd pins s5 σ H5 _ I5 q5) fun v' s6 ⟨z3, H6, I6, r6, q6⟩ => thn (ho2 pins s6 σ H6 z' z3 w' v' _ I6 r4 r6 q6) fun d3 s7 ⟨z4, H7, I7, r7, k3, e3, q7⟩ => ?_))
      subst e3
      cases r7
      exact wpAny_truthy_bool ⟨H7, I7, q7⟩
end
end L2

namespace L2
open PySem PySem.Spec PyProof.Rows
/-! ### how many steps a table takes (k55) -/
def colT (T : Tbl) (c : Nat) : List Int := T.map fun r => r.getD c 0
theorem even_col {T : Tbl} {c c' : Nat} {a b : Int} (hl : ∀ r ∈ T, c < r.length) : colT (T.map (evenRow c a b)) c' = if c' = c then (colT T c).map (fun v => if v = max a b then min a b else v) else colT T c' := by
  unfold colT
  rw [List.map_map]
  by_cases e : c' = c
  · rw [if_pos e, List.map_map]
    refine List.map_congr_left fun r hr => ?_
    show (evenRow c a b r).getD c' 0 = if r.getD c 0 = max a b then min a b else r.getD c 0
    unfold evenRow
    subst e
    by_cases z : r.getD c' 0 = max a b
    · rw [if_pos z, if_pos z, List.getD_eq_getElem?_getD, List.getElem?_set_self (hl r hr)]; rfl
    · rw [if_neg z, if_neg z]
  · rw [if_neg e]
    refine List.map_congr_left fun r hr => ?_
    show (evenRow c a b r).getD c' 0 = r.getD c' 0
    unfold evenRow
    split
    · rw [List.getD_eq_getElem?_getD, List.getElem?_set_ne (Ne.symm e), ← List.getD_eq_getElem?_getD]
    · rfl
/-- what one step does to its column's kinds -/
theorem step_kinds {m : Nat} {T : Tbl} {rs : List RD} {p : Stp} (m7 : m ≤ 7) (hrs : Rules m rs) (hl : ∀ r ∈ T, r.length = m) (h : firstS T rs = some p) :
    ∃ ri rj x y, StepP T rs p ri rj x y ∧ p.2.2.2 < m ∧ ri.getD p.2.2.2 0 ≠ rj.getD p.2.2.2 0 ∧ stepT T p = T.map (evenRow p.2.2.2 (ri.getD p.2.2.2 0) (rj.getD p.2.2.2 0)) ∧
      (∀ c, colT (stepT T p) c = if c = p.2.2.2 then (colT T p.2.2.2).map (fun v => if v = max (ri.getD p.2.2.2 0) (rj.getD p.2.2.2 0) then min (ri.getD p.2.2.2 0) (rj.getD p.2.2.2 0) else v) else colT T c) ∧
      (kindsL (colT (stepT T p) p.2.2.2)).length + 1 = (kindsL (colT T p.2.2.2)).length := by
  obtain ⟨ri, rj, x, y, S⟩ := firstS_some h
  obtain ⟨hc, ne⟩ := unlN_some (hrs _ (List.mem_of_getElem? S.rule)).2 m7 S.un
  have es : stepT T p = T.map (evenRow p.2.2.2 (ri.getD p.2.2.2 0) (rj.getD p.2.2.2 0)) := by
    unfold stepT
    rw [rowT_of S.ei, rowT_of S.ej]
  have ec := fun c' => even_col (T := T) (c := p.2.2.2) (c' := c') (a := ri.getD p.2.2.2 0) (b := rj.getD p.2.2.2 0) fun r hr => by rw [hl r hr]; exact hc
  refine ⟨ri, rj, x, y, S, hc, ne, es, fun c => by rw [es]; exact ec c, ?_⟩
  rw [es, ec, if_pos rfl]
  have mi : ri.getD p.2.2.2 0 ∈ colT T p.2.2.2 := List.mem_map.mpr ⟨ri, List.mem_of_getElem? S.ei, rfl⟩
  have mj : rj.getD p.2.2.2 0 ∈ colT T p.2.2.2 := List.mem_map.mpr ⟨rj, List.mem_of_getElem? S.ej, rfl⟩
  refine kinds_even ?_ ?_ ?_
  · rcases Int.le_total (ri.getD p.2.2.2 0) (rj.getD p.2.2.2 0) with z | z
    · rw [Int.min_eq_left z]; exact mi
    · rw [Int.min_eq_right z]; exact mj
  · rcases Int.le_total (ri.getD p.2.2.2 0) (rj.getD p.2.2.2 0) with z | z
    · rw [Int.max_eq_right z]; exact mj
    · rw [Int.max_eq_left z]; exact mi
  · omega
def kSum (m : Nat) (T : Tbl) : Nat := ((List.range m).map fun c => (kindsL (colT T c)).length).sum
theorem sum_one {f g : Nat → Nat} {c0 : Nat} (h0 : f c0 + 1 = g c0) (h : ∀ c, c ≠ c0 → f c = g c) : ∀ m, c0 < m → ((List.range m).map f).sum + 1 = ((List.range m).map g).sum := by
  have same : ∀ m, m ≤ c0 → ((List.range m).map f).sum = ((List.range m).map g).sum := fun m => by
    induction m with
    | zero => exact fun _ => rfl
    | succ m ih =>
      intro hm
      rw [List.range_succ, List.map_append, List.map_append, List.sum_append, List.sum_append, ih (by omega), List.map_singleton, List.map_singleton, h m (by omega)]
  intro m
  induction m with
  | zero => intro z; omega
  | succ m ih =>
    intro hm
    rw [List.range_succ, List.map_append, List.map_append, List.sum_append, List.sum_append, List.map_singleton, List.map_singleton, List.sum_singleton, List.sum_singleton]
    by_cases e : m = c0
    · subst e
      rw [same m (Nat.le_refl _)]; omega
    · rw [h m e]
      have := ih (by omega)
      omega
theorem step_len {m : Nat} {T : Tbl} {p : Stp} (hl : ∀ r ∈ T, r.length = m) : ∀ r ∈ stepT T p, r.length = m := fun r hr => by
  unfold stepT at hr
  obtain ⟨r', h1, rfl⟩ := List.mem_map.mp hr
  rw [evenRow_len]
  exact hl r' h1
theorem run_count {m : Nat} {rs : List RD} (m7 : m ≤ 7) (hrs : Rules m rs) : ∀ (n : Nat) (T : Tbl), (∀ r ∈ T, r.length = m) → (runT rs n T).2.length ≤ kSum m T
  | 0, T, _ => Nat.zero_le _
  | n + 1, T, hl => by
    rw [runT]
    cases e : firstS T rs with
    | none => exact Nat.zero_le _
    | some p =>
      obtain ⟨ri, rj, x, y, S, hc, ne, es, ec, ek⟩ := step_kinds m7 hrs hl e
      have ih := run_count m7 hrs n (stepT T p) (step_len hl)
      have h1 : kSum m (stepT T p) + 1 = kSum m T := sum_one (c0 := p.2.2.2) ek (fun c z => by show (kindsL (colT (stepT T p) c)).length = _; rw [ec c, if_neg z]) m hc
      show (runT rs n (stepT T p)).2.length + 1 ≤ kSum m T
      omega
theorem kSum_le (m : Nat) (T : Tbl) : kSum m T ≤ m * T.length := by
  unfold kSum
  induction m with
  | zero => exact Nat.zero_le _
  | succ m ih =>
    rw [List.range_succ, List.map_append, List.sum_append, List.map_singleton, List.sum_singleton, Nat.succ_mul]
    have h := kinds_len (colT T m)
    have e : (colT T m).length = T.length := by unfold colT; exact List.length_map _
    omega
/-- rows in place, the law's own -/
def spFirst55 (K : PySem.W.Frag) : Sp := fun vs H Q _ => ∃ (m : Nat) (pl : Addr) (ps : List Nat), vs = [vN m, .ref pl] ∧ 1 ≤ m ∧ m ≤ 7 ∧ SqL K H pl (ps.map vN) ∧ ps.length ≤ 10 ∧ (∀ p ∈ ps, p < 2 ^ m) ∧
  ∀ (rp : Addr) (as : List Addr) (H' : Hp), Same H H' → H rp = none → H' rp = some (.lst (as.map V.ref)) → LB H' m as (begT m ps) → (∀ a ∈ as, H a = none) → rp ∉ as → Q (.ref rp) H'
def spDone55 (K : PySem.W.Frag) : Sp := fun vs H Q _ => ∃ (tl rl t : Addr) (rs : List Rl) (as : List Addr) (T : Tbl) (m : Nat) (p : Stp), vs = [.ref tl, .ref rl, .ref t] ∧ SqL K H rl (rs.map fun r => V.ref r.r) ∧ RulesAt H m rs ∧ rs.length ≤ 200 ∧ H tl = some (.lst (as.map V.ref)) ∧ LB H m as T ∧ tl ∉ as ∧ m ≤ 7 ∧ T.length ≤ 20 ∧
  H t = some (.tup [vN p.1, vN p.2.1, vN p.2.2.1, vN p.2.2.2]) ∧ firstS T (rs.map Rl.d) = some p ∧ ∀ H', Off as H H' → LB H' m as (stepT T p) → Q (.bl true) H'
/-- at its end a table keeps the settling rules, and has noughts at each row's part -/
theorem run_setok {m : Nat} {rs : List RD} {ps : List Nat} {ts : List Addr} (m7 : m ≤ 7) (hrs : Rules m rs) (hps : ∀ p ∈ ps, p < 2 ^ m) (lp : ps.length ≤ 10) {x y : Nat} (h : (true, x, y) ∈ rs) : SetOk (ts.zip (runT rs 1000 (begT m ps)).1) x y := by
  obtain ⟨M, ln, hl⟩ := run_mod m7 hrs hps lp
  obtain ⟨hx, hy⟩ := hrs _ h
  generalize (runT rs 1000 (begT m ps)).1 = T at M ln hl
  have at_ : ∀ a ∈ ts.zip T, ∃ i, i < ps.length ∧ rowT T i = a.2 ∧ a.2.length = m := fun a ha => by
    have h1 : a.2 ∈ T := (List.of_mem_zip (a := a.1) (b := a.2) ha).2
    obtain ⟨i, hi⟩ := List.getElem?_of_mem h1
    refine ⟨i, by rw [← ln]; exact (List.getElem?_eq_some_iff.mp hi).1, rowT_of hi, hl _ h1⟩
  intro a ha b hb he
  obtain ⟨i, hi, ei, la⟩ := at_ a ha
  obtain ⟨j, hj, ej, lb⟩ := at_ b hb
  refine (alike_seen (by omega) hy la lb).mp ((alikeL_iff m7 hy).mpr ?_)
  have hal := (alikeL_iff m7 hx).mp ((alike_seen (by omega) hx la lb).mpr he)
  intro c hc hyc
  have := M.keep _ h rfl i j hi hj (fun c' hc' hx' => by unfold cellT; rw [ei, ej]; exact hal c' hc' hx') c hc hyc
  unfold cellT at this
  rw [ei, ej] at this
  exact this
theorem run_zero {m i p : Nat} {rs : List RD} {ps : List Nat} {r : List Int} (m7 : m ≤ 7) (hrs : Rules m rs) (hps : ∀ p ∈ ps, p < 2 ^ m) (lp : ps.length ≤ 10) (ep : ps[i]? = some p) (er : (runT rs 1000 (begT m ps)).1[i]? = some r) : alikeL r (List.replicate m 0) p = true := by
  obtain ⟨M, _, _⟩ := run_mod m7 hrs hps lp
  refine (alikeL_iff m7 (hps p (List.mem_of_getElem? ep))).mpr fun c hc hb => ?_
  have := M.own i p ep c hc hb
  unfold cellT at this
  rw [rowT_of er] at this
  rw [this, List.getD_eq_getElem?_getD, List.getElem?_replicate, if_pos hc]; rfl
theorem fold_len {T : Tbl} : ∀ (ss : List Stp), (ss.foldl stepT T).length = T.length := fun ss => by
  induction ss generalizing T with
  | nil => rfl
  | cons p ss ih =>
    rw [List.foldl_cons, ih]
    unfold stepT
    exact List.length_map _
theorem first_own {T : Tbl} {rs : List RD} (h : ∀ r ∈ rs, r.1 = false) : firstS T rs = none := by
  cases e : firstS T rs with
  | none => rfl
  | some p =>
    obtain ⟨_, _, x, y, S⟩ := firstS_some e
    have := h _ (List.mem_of_getElem? S.rule)
    cases this
theorem rows_eq (T : Tbl) : same (.list (T.map dRow)) (.list (T.map dRow)) = true ∧ SeqAt.noMix (.list (T.map dRow)) (.list (T.map dRow)) = true ∧ SeqAt.shaped (.list (T.map dRow)) = true :=
  ⟨by rw [same_list same_dRow]; exact decide_eq_true rfl, noMix_list noMix_dRow _ _, shaped_map canLay_dRow depth_dRow _⟩
end L2

namespace Own
open PySem L2
def top (i : Nat) : Stmt := PySem.Challenge.pw_splithouse_k55_what_filled_tables_keep.main.body.getD i (.Pass ⟨0, 0, 0, 0⟩)
section
variable {P : Program} {w : World} {K : PySem.W.Frag} {mg : Str → Option Value} {base : Heap}
seal PySem.wpAny
abbrev sHas : Stmt := top 1
theorem scHas : FnScope ["some", "column"] ["some", "column"] (defScope sHas) := ⟨rfl, rfl, rfl, by decide +kernel, rfl, by decide +kernel, by decide +kernel⟩
theorem ok_has {f : Addr} {fd : FuncData} (F : Fun K "has_column" "has_column" sHas f fd) : FnOk P w K mg base CX0 1 f fd ["some", "column"] spHas := by
  refine F.ok scHas (fun vs H Q E h => ?_) (fun cdv A outer s H vs Q E hr h => ?_)
  · obtain ⟨a, k, rfl, _⟩ := h
    rfl
  · obtain ⟨a, k, rfl, q⟩ := h
    refine ⟨_, pss_one (ps_ret (pe_cmpR op_eq (pe_op op_and (pe_op op_shr (pv 0) (pv 1)) pe_int) pe_int (nomark _))), ?_⟩
    refine ⟨_, rfl, _, rfl, _, _, rfl, rfl, (by omega), _, _, rfl, rfl, rfl, ?_⟩
    show Q (V.bl (decide (V.int (Builtin.bitAnd ((a : Int) / 2 ^ (k : Int).toNat) 1) = V.int 1))) H
    rw [has_eq]
    exact q
abbrev sCols : Stmt := top 2
theorem scCols : FnScope ["some"] ["some"] (defScope sCols) := ⟨rfl, rfl, rfl, by decide +kernel, rfl, by decide +kernel, by decide +kernel⟩
theorem ok_cols {f fH : Addr} {fd fdH : FuncData} (F : Fun K "columns_of" "columns_of" sCols f fd) (GH : FnOk P w K mg base CX0 1 fH fdH ["some", "column"] spHas) (mH : mg "has_column" = some (.ref fH)) (kH : PySem.W.keepIn K (.ref fH) = true) (bH : Binds K fdH ["some", "column"] []) (zR : mg "range" = none) : FnOk P w K mg base CX0 2 f fd ["some"] spCols := by
  refine F.ok scCols (fun vs H Q E h => ?_) (fun cdv A outer s H vs Q E hr h => ?_)
  · obtain ⟨a, rfl, _⟩ := h
    rfl
  · obtain ⟨a, rfl, ha, q⟩ := h
    refine ⟨_, pss_one (ps_ret (pe_comp (xs := ["column"]) (cs ["some"] (defScope sCols) rfl rfl (by decide +kernel)) rfl (pi_range1 rfl zR (pa_cons (pe_bm0 PySem.F.plainAttrs_int PySem.F.slot_int_bit_length PySem.F.type_int_bit_length mt_bitlen (pv 0)) pa_nil))
      (fun _ _ _ => pg_name (i := 0) (show (["column", "some"] : List Str).Nodup by decide +kernel) rfl (Or.inl rfl)) (fun _ _ _ => pts_one (pt_val (pe_call GH hr rfl mH kH bH .nil pass0 (pa_cons (pv 1) (pa_cons (pv 0) pa_nil))))) (fun _ _ _ => pv 0))), ?_⟩
    refine ⟨_, rfl, rfl, (a : Int), rfl, rfl, _, rfl, (by omega), ?_, ?_⟩
    · have := bitsN_le ha
      show ((bitsN a : Nat) : Int) < _
      omega
    · refine lc_range (lo := 0) (k := ((bitsN a : Nat) : Int).toNat) (n := 1) (fun i acc H' => H' = H ∧ acc = ((List.range i).filter (hasB a)).map vN) ?_ ⟨rfl, rfl⟩ (fun i acc H' hi h => ?_) (fun i acc H' hi h => ?_) (fun acc H' h => ?_)
      · have := bitsN_le ha
        omega
      · rw [h.2, List.length_map]
        exact Nat.le_trans (List.length_filter_le _ _) (by simp)
      · obtain ⟨rfl, rfl⟩ := h
        refine ⟨rfl, _, rfl, _, rfl, a, i, ?_, _, rfl, ?_⟩
        · show [vN a, V.int (0 + (i : Int))] = _
          rw [Int.zero_add]; rfl
        · refine ite2 (fun hc => ?_) (fun hc => ?_)
          · refine ⟨_, rfl, rfl, ?_⟩
            rw [filt_succ, if_pos hc, List.map_append, Int.zero_add]
            rfl
          · refine ⟨rfl, ?_⟩
            rw [filt_succ, if_neg hc, List.append_nil]
      · obtain ⟨rfl, rfl⟩ := h
        intro p hp
        exact q p hp
abbrev sAll : Stmt := top 3
theorem scAll : FnScope ["many"] ["many"] (defScope sAll) := ⟨rfl, rfl, rfl, by decide +kernel, rfl, by decide +kernel, by decide +kernel⟩
theorem ok_all {f : Addr} {fd : FuncData} (F : Fun K "all_of" "all_of" sAll f fd) : FnOk P w K mg base CX0 1 f fd ["many"] spAllOf := by
  refine F.ok scAll (fun vs H Q E h => ?_) (fun cdv A outer s H vs Q E hr h => ?_)
  · obtain ⟨m, rfl, _⟩ := h
    rfl
  · obtain ⟨m, rfl, hm, q⟩ := h
    refine ⟨_, pss_one (ps_ret (pe_op op_sub (pe_op op_shl pe_int (pv 0)) pe_int)), ?_⟩
    refine ⟨_, rfl, _, _, rfl, rfl, cpow1 hm, _, _, rfl, rfl, ?_⟩
    show Q (V.int (1 * 2 ^ (m : Int).toNat - 1)) H
    have pw : 0 < 2 ^ m := Nat.two_pow_pos m
    have e : (1 : Int) * 2 ^ (m : Int).toNat - 1 = ((2 ^ m - 1 : Nat) : Int) := by rw [shl1]; omega
    rw [e]
    exact q
abbrev sWithin : Stmt := top 4
def spWithin : Sp := fun vs H Q _ => ∃ a b : Nat, vs = [.int (a : Int), .int (b : Int)] ∧ Q (.bl (decide (a &&& b = a))) H
theorem scWithin : FnScope ["one", "other"] ["one", "other"] (defScope sWithin) := ⟨rfl, rfl, rfl, by decide +kernel, rfl, by decide +kernel, by decide +kernel⟩
theorem ok_within {f : Addr} {fd : FuncData} (F : Fun K "is_within" "is_within" sWithin f fd) : FnOk P w K mg base CX0 1 f fd ["one", "other"] spWithin := by
  refine F.ok scWithin (fun vs H Q E h => ?_) (fun cdv A outer s H vs Q E hr h => ?_)
  · obtain ⟨a, b, rfl, _⟩ := h
    rfl
  · obtain ⟨a, b, rfl, q⟩ := h
    refine ⟨_, pss_one (ps_ret (pe_cmpR op_eq (pe_op op_and (pv 0) (pv 1)) (pv 0) (nomark _))), ?_⟩
    refine ⟨_, rfl, _, rfl, _, _, rfl, rfl, _, rfl, rfl, ?_⟩
    show Q (V.bl (decide (V.int (Builtin.bitAnd (a : Int) (b : Int)) = V.int (a : Int)))) H
    rw [bitAnd_nat, dec_int]
    have e : (((a &&& b : Nat) : Int) == (a : Int)) = decide (a &&& b = a) := by
      rw [Bool.eq_iff_iff, beq_iff_eq, decide_eq_true_iff]
      exact Int.ofNat_inj
    rw [e]
    exact q
abbrev sAlike : Stmt := top 6
theorem scAlike : FnScope ["one", "other", "some"] ["one", "other", "some"] (defScope sAlike) := ⟨rfl, rfl, rfl, by decide +kernel, rfl, by decide +kernel, by decide +kernel⟩
theorem ok_alike {f fC : Addr} {fd fdC : FuncData} (F : Fun K "alike" "alike" sAlike f fd) (GC : FnOk P w K mg base CX0 2 fC fdC ["some"] spCols) (mC : mg "columns_of" = some (.ref fC)) (kC : PySem.W.keepIn K (.ref fC) = true) (bC : Binds K fdC ["some"] []) (zall : mg "all" = none) : FnOk P w K mg base CX0 3 f fd ["one", "other", "some"] (spAlike K) := by
  refine F.ok scAlike (fun vs H Q E h => ?_) (fun cdv A outer s H vs Q E hr h => ?_)
  · obtain ⟨a, b, r1, r2, x, rfl, _⟩ := h
    rfl
  · obtain ⟨a, b, r1, r2, x, rfl, ha, hb, hx, hc, q⟩ := h
    refine ⟨_, (pss_one (ps_ret (pe_callB (call_allK (K := K) rfl rfl) (by rfl) zall PyProof.Rows.boot_all (pa_cons (pe_comp (xs := ["column"]) (cs ["one", "other", "some"] (defScope sAlike) rfl rfl (by decide +kernel)) rfl (pi_listK (K := K) rfl (pe_call GC hr rfl mC kC bC .nil pass0 (pa_cons (pv 2) pa_nil))) (fun _ _ _ => pg_name (i := 0) (show (["column", "one", "other", "some"] : List Str).Nodup by decide +kernel) rfl (Or.inl rfl)) (fun _ _ _ => pts_nil) (fun _ _ _ => (pe_cmpR op_eqI (pe_ix (ix_tupK (K := K) rfl) (pv 1) (pv 0) (fun _ _ => rfl)) (pe_ix (ix_tupK (K := K) rfl) (pv 2) (pv 0) (fun _ _ => rfl)) (nomark _)))) pa_nil)))), ?_⟩
    refine ⟨_, rfl, x, rfl, hx, fun d hd => ⟨d, rfl, ⟨_, SqL.of upd_same⟩, ?_⟩⟩
    have s1 : Same H (upd H d (.lst ((colsN x).map vN))) := Same.new hd
    have hd1 : (upd H d (.lst ((colsN x).map vN))) d = some (.lst ((colsN x).map vN)) := upd_same
    generalize upd H d (.lst ((colsN x).map vN)) = H1 at s1 hd1
    have cl : (colsN x).length ≤ 1000 := Nat.le_trans (List.length_filter_le _ _) (by rw [List.length_range]; exact Nat.le_trans (bitsN_le hx) (by decide))
    refine lc_list (xs := (colsN x).map vN) (fun i acc H' => H' = H1 ∧ acc = (((colsN x).take i).map fun c => decide (r1.getD c 0 = r2.getD c 0)).map V.bl) (by rw [List.length_map]; omega) ⟨rfl, rfl⟩ (fun i acc H' hi h => ?_) (fun i y acc H' hy h => ?_) (fun acc H' h => ?_)
    · rw [h.1, h.2]
      exact ⟨SqL.of hd1, by rw [List.length_map, List.length_map]; exact List.length_take_le _ _⟩
    · obtain ⟨rfl, rfl⟩ := h
      rw [List.getElem?_map] at hy
      cases ez : (colsN x)[i]? with
      | none => rw [ez] at hy; cases hy
      | some c =>
        rw [ez] at hy
        obtain rfl := (Option.some.inj hy).symm
        obtain ⟨c1, c2⟩ := hc c (List.mem_of_getElem? ez)
        refine ⟨rfl, _, rfl, _, rfl, a, _, _, _, rfl, rfl, s1.tupS ha, atI_nat (j := c) (getD_int c1), _, rfl, _, rfl, b, _, _, _, rfl, rfl, s1.tupS hb, atI_nat (j := c) (getD_int c2), _, _, rfl, rfl, rfl, ?_⟩
        rw [List.take_succ, ez, List.map_append, List.map_append]
        rfl
    · obtain ⟨rfl, rfl⟩ := h
      intro e he
      refine ⟨e, _, rfl, SqL.of upd_same, ?_⟩
      rw [List.length_map, List.take_length]
      exact q _ (s1.trans (Same.new he))
abbrev sMixed : Stmt := top 7
theorem scMixed : FnScope ["one", "other", "some"] ["one", "other", "some"] (defScope sMixed) := ⟨rfl, rfl, rfl, by decide +kernel, rfl, by decide +kernel, by decide +kernel⟩
theorem ok_mixed {f fH : Addr} {fd fdH : FuncData} (F : Fun K "mixed" "mixed" sMixed f fd) (GH : FnOk P w K mg base CX0 1 fH fdH ["some", "column"] spHas) (mH : mg "has_column" = some (.ref fH)) (kH : PySem.W.keepIn K (.ref fH) = true) (bH : Binds K fdH ["some", "column"] []) (zrange : mg "range" = none) (zlen : mg "len" = none) (ztuple : mg "tuple" = none) : FnOk P w K mg base CX0 2 f fd ["one", "other", "some"] (spMixed K) := by
  refine F.ok scMixed (fun vs H Q E h => ?_) (fun cdv A outer s H vs Q E hr h => ?_)
  · obtain ⟨a, b, r1, r2, x, rfl, _⟩ := h
    rfl
  · obtain ⟨a, b, r1, r2, x, rfl, ha, hb, hl, hl2, q⟩ := h
    refine ⟨_, (pss_one (ps_ret (pe_callTy (call_tupleK (K := K) rfl) (by rfl) ztuple PyProof.Rows.boot_tuple (pa_cons (pe_comp (xs := ["column"]) (cs ["one", "other", "some"] (defScope sMixed) rfl rfl (by decide +kernel)) rfl (pi_range1 rfl zrange (pa_cons (pe_callB (call_lenK (K := K) rfl) (by rfl) zlen PySem.boot_len (pa_cons (pv 0) pa_nil)) pa_nil)) (fun _ _ _ => pg_name (i := 0) (show (["column", "one", "other", "some"] : List Str).Nodup by decide +kernel) rfl (Or.inl rfl)) (fun _ _ _ => pts_nil) (fun _ _ _ => (pe_ifExp (pt_val (pe_call GH hr rfl mH kH bH .nil pass0 (pa_cons (pv 3) (pa_cons (pv 0) pa_nil)))) (pe_ix (ix_tupK (K := K) rfl) (pv 1) (pv 0) (fun _ _ => rfl)) (pe_ix (ix_tupK (K := K) rfl) (pv 2) (pv 0) (fun _ _ => rfl))))) pa_nil)))), ?_⟩
    have lm : (r1.map V.int).length = r1.length := List.length_map ..
    refine ⟨_, rfl, a, _, rfl, .inr ha, _, rfl, (by omega), (by omega), lc_rangeN (k := (r1.map V.int).length) (n := 1) (fun i acc H' => H' = H ∧ acc = ((List.range i).map fun k => if hasB x k = true then r1.getD k 0 else r2.getD k 0).map V.int) (by omega) ⟨rfl, rfl⟩ (fun i acc H' hi h => ?_) (fun i acc H' hi h => ?_) (fun acc H' h => ?_)⟩
    · rw [h.2, List.length_map, List.length_map, List.length_range]; exact Nat.le_refl _
    · obtain ⟨rfl, rfl⟩ := h
      rw [lm] at hi
      refine ⟨rfl, _, rfl, _, rfl, x, i, rfl, _, rfl, ?_⟩
      refine ite2 (fun hc => ?_) (fun hc => ?_)
      · refine ⟨_, rfl, _, rfl, a, _, _, _, rfl, rfl, ha, atI_nat (j := i) (getD_int hi), rfl, ?_⟩
        rw [List.range_succ, List.map_append, List.map_append, List.map_singleton, if_pos hc]
        rfl
      · refine ⟨_, rfl, _, rfl, b, _, _, _, rfl, rfl, hb, atI_nat (j := i) (getD_int (by omega)), rfl, ?_⟩
        rw [List.range_succ, List.map_append, List.map_append, List.map_singleton, if_neg hc]
        rfl
    · obtain ⟨rfl, rfl⟩ := h
      intro d hd
      refine ⟨d, _, rfl, .inl ⟨SqL.of upd_same, fun t ht => ?_⟩⟩
      have ss := (Same.new (o := .lst (((List.range (r1.map V.int).length).map fun k => if hasB x k = true then r1.getD k 0 else r2.getD k 0).map V.int)) hd)
      refine q t _ (ss.trans (Same.new ht)) (ss.free ht) ?_
      rw [upd_same, lm]
      rfl
abbrev sNoughts : Stmt := top 8
theorem scNoughts : FnScope ["many"] ["many"] (defScope sNoughts) := ⟨rfl, rfl, rfl, by decide +kernel, rfl, by decide +kernel, by decide +kernel⟩
theorem ok_noughts {f : Addr} {fd : FuncData} (F : Fun K "noughts" "noughts" sNoughts f fd) : FnOk P w K mg base CX0 1 f fd ["many"] spNoughts := by
  refine F.ok scNoughts (fun vs H Q E h => ?_) (fun cdv A outer s H vs Q E hr h => ?_)
  · obtain ⟨m, rfl, _⟩ := h
    rfl
  · obtain ⟨m, rfl, h1, h20, q⟩ := h
    refine ⟨_, (pss_one (ps_ret (pe_op op_repT (pe_tup (pa_cons pe_int pa_nil)) (pv 0)))), ?_⟩
    refine ⟨(by show 1 ≤ sizeLine; decide), fun l hl => ?_⟩
    refine ⟨_, rfl, l, V.int 0, m, rfl, rfl, upd_same, h1, by omega, fun e => ?_, fun e p hp => ?_⟩
    · subst e
      exact q l _ (Same.new hl) hl upd_same
    · refine q p _ ((Same.new hl).trans (Same.new hp)) ((Same.new hl).free hp) ?_
      rw [upd_same, List.map_replicate]
abbrev sSeen : Stmt := top 9
theorem scSeen : FnScope ["row", "part"] ["row", "part"] (defScope sSeen) := ⟨rfl, rfl, rfl, by decide +kernel, rfl, by decide +kernel, by decide +kernel⟩
theorem ok_seen {f fM fN : Addr} {fd fdM fdN : FuncData} (F : Fun K "seen_row" "seen_row" sSeen f fd) (GM : FnOk P w K mg base CX0 2 fM fdM ["one", "other", "some"] (spMixed K)) (mM : mg "mixed" = some (.ref fM)) (kM : PySem.W.keepIn K (.ref fM) = true) (bM : Binds K fdM ["one", "other", "some"] []) (GN : FnOk P w K mg base CX0 1 fN fdN ["many"] spNoughts) (mN : mg "noughts" = some (.ref fN)) (kN : PySem.W.keepIn K (.ref fN) = true) (bN : Binds K fdN ["many"] []) (zlen : mg "len" = none) : FnOk P w K mg base CX0 3 f fd ["row", "part"] spSeen := by
  refine F.ok scSeen (fun vs H Q E h => ?_) (fun cdv A outer s H vs Q E hr h => ?_)
  · obtain ⟨a, r, x, rfl, _⟩ := h
    rfl
  · obtain ⟨a, r, x, rfl, ha, l1, l20, q⟩ := h
    have hr1 : Room 1 _ := hr.mono (by decide)
    refine ⟨_, (pss_one (ps_ret (pe_call GM hr rfl mM kM bM .nil pass0 (pa_cons (pv 0) (pa_cons (pe_call GN hr1 rfl mN kN bN .nil pass0 (pa_cons (pe_callB (call_lenK (K := K) rfl) (by rfl) zlen PySem.boot_len (pa_cons (pv 0) pa_nil)) pa_nil)) (pa_cons (pv 1) pa_nil)))))), ?_⟩
    have lm : (r.map V.int).length = r.length := List.length_map ..
    refine ⟨_, rfl, _, rfl, a, _, rfl, .inr (SqT.of ha), (r.map V.int).length, rfl, by omega, by omega, fun p H1 s1 hp hp1 => ?_⟩
    rw [lm] at hp1
    refine ⟨_, rfl, a, p, r, List.replicate r.length 0, x, rfl, SqT.of (s1 _ _ ha), SqT.of hp1, by rw [List.length_replicate], l20, fun p2 H2 s2 hp2 hp3 => ?_⟩
    exact q p2 H2 (s1.trans s2) (s1.free hp2) hp3
abbrev sGroups : Stmt := top 10
theorem scGroups : FnScope ["book", "some", "groups", "row"] ["book", "some"] (defScope sGroups) := ⟨rfl, rfl, rfl, by decide +kernel, rfl, by decide +kernel, by decide +kernel⟩
theorem ok_groups {f fE : Addr} {fd fdE : FuncData} (F : Fun K "groups_on" "groups_on" sGroups f fd) (GE : FnOk P w K mg base CX0 3 fE fdE ["row", "part"] spSeen) (mE : mg "seen_row" = some (.ref fE)) (kE : PySem.W.keepIn K (.ref fE) = true) (bE : Binds K fdE ["row", "part"] []) : FnOk P w K mg base CX0 4 f fd ["book", "some"] (spGroups K) := by
  refine F.ok scGroups (fun vs H Q E h => ?_) (fun cdv A outer s H vs Q E hr h => ?_)
  · obtain ⟨bk, rws, x, m, rfl, _⟩ := h
    rfl
  · obtain ⟨bk, rws, x, m, rfl, hB, hR, m1, m20, hlen, q⟩ := h
    have nd := scGroups.nd
    refine ⟨_, (pss_cons (ps_set (i := 2) nd rfl (Or.inl rfl) pe_dnewT)
      (pss_cons (ps_for PassesOwn.never rfl (pi_listK (K := K) rfl (pv 0)) (pg_name (i := 3) nd rfl (Or.inl rfl)) (pss_one (ps_expr (pe_bm PySem.F.plainAttrs_list PySem.F.slot_list_append PySem.F.type_list_append mt_append (pe_dsd (hu_of hr) (pv 2) (pe_call GE hr rfl mE kE bE .nil pass0 (pa_cons (pv 3) (pa_cons (pv 1) pa_nil))) (pe_lst pa_nil) ⟨rfl, rfl, rfl, rfl⟩) (pa_cons (pv 3) pa_nil)))))
      (pss_one (ps_ret (pv 2))))), ?_⟩
    intro d hd
    have s0 : Same H (upd H d (.dT [])) := Same.new hd
    refine ⟨_, rfl, bk, rfl, ⟨_, s0.seq hB⟩, for_list (xs := refsOf rws) (fun i σ H2 => (∃ v, σ = [some (.ref bk), some (vN x), some (.ref d), v]) ∧ Same H H2 ∧ ∃ G, GroupsAt H2 d G ∧ forget G = groupsL (rws.take i) x ∧ ∀ g ∈ G, H g.at_ = none)
      ⟨⟨none, rfl⟩, s0, [], ⟨upd_same, fun g hg => absurd hg List.not_mem_nil, List.nodup_nil, List.nodup_nil⟩, rfl, fun g hg => absurd hg List.not_mem_nil⟩ (fun i σ H2 _ h => h.2.1.seq hB) ?_ ?_⟩
    · rintro i v σ H2 hv ⟨⟨v3, rfl⟩, s2, G, A2, eG, hf⟩
      unfold refsOf at hv
      rw [List.getElem?_map] at hv
      cases er : rws[i]? with
      | none => rw [er] at hv; cases hv
      | some rw0 =>
        rw [er] at hv
        obtain rfl := (Option.some.inj hv).symm
        obtain ⟨hrow, hrl⟩ := hR rw0 (List.mem_of_getElem? er)
        have tk : rws.take (i + 1) = rws.take i ++ [rw0] := by rw [List.take_succ, er]; rfl
        obtain ⟨gl1, gl2⟩ := groups_len x (rws.take i)
        have tl : (rws.take i).length ≤ 300 := Nat.le_trans (List.length_take_le _ _) (by
          have := (List.getElem?_eq_some_iff.mp er).1; omega)
        refine ⟨_, rfl, d, rfl, .inr ⟨_, .inl A2.dict⟩, ?_⟩
        refine ⟨_, rfl, _, rfl, rw0.1, rw0.2, x, rfl, s2 _ _ hrow, by omega, by omega, fun p H3 s3 hp hp3 => ?_⟩
        refine ⟨(by show 0 ≤ sizeLine; exact Nat.zero_le _), fun l hl => ?_⟩
        have s34 : Same H3 (upd H3 l (.lst [])) := Same.new hl
        have A4 : GroupsAt (upd H3 l (.lst [])) d G := (A2.same s3).same s34
        have hl4 : (upd H3 l (.lst [])) l = some (.lst []) := upd_same
        have hp4 : (upd H3 l (.lst [])) p = some (.tup ((seenL rw0.2 x).map V.int)) := s34 _ _ hp3
        have s4 : Same H (upd H3 l (.lst [])) := s2.trans (s3.trans s34)
        have hlG : ∀ g ∈ G, g.at_ ≠ l := fun g hg => ne_of_none ((A2.same s3).lists g hg) hl
        have hlH : H l = none := (s2.trans s3).free hl
        generalize upd H3 l (.lst []) = H4 at A4 hl4 hp4 s4
        refine ⟨kvsOf G, tks (seenL rw0.2 x), p, A4.dict, rfl, by rw [tks_kV]; exact hp4, ?_, fun v hv => ?_, fun hv => ?_⟩
        · unfold kvsOf
          rw [List.length_map, forget_len eG]
          exact small1000 (by omega)
        · rw [valV_G] at hv
          cases ef : (G.find? fun g => decide (g.key = seenL rw0.2 x)) with
          | none => rw [ef] at hv; cases hv
          | some g =>
            rw [ef] at hv
            obtain rfl := (Option.some.inj hv).symm
            obtain ⟨hm, hk, A5⟩ := A4.old (rw := rw0) ef
            refine ⟨.inl ⟨rfl, _, SqL.of (A4.lists g hm)⟩, _, rfl, g.at_, _, _, rfl, rfl, A4.lists g hm, ?_, ⟨_, rfl⟩, ?_, _, A5, ?_, fun g' hg' => ?_⟩
            · unfold refsOf
              rw [List.length_map]
              have h9 : g.rows.length ≤ (rws.take i).length := gl2 _ (forget_mem eG hm)
              exact small1000 (by show g.rows.length ≤ 1000; omega)
            · exact fun b o e => by rw [upd_ne (ne_of_none e (hf g hm))]; exact s4 b o e
            · rw [forget_upd (by rw [ef]; rfl), eG, tk, groupsL_snoc]
            · unfold updG at hg'
              obtain ⟨g0, h0, rfl⟩ := List.mem_map.mp hg'
              have := hf g0 h0
              split <;> exact this
        · rw [valV_G] at hv
          have ef : (G.find? fun g => decide (g.key = seenL rw0.2 x)) = none := by
            cases ef : (G.find? fun g => decide (g.key = seenL rw0.2 x)) with
            | none => rfl
            | some g => rw [ef] at hv; cases hv
          have A5 := A4.snoc (rw := rw0) ef hl4 hlG
          have hl5 : (upd H4 d (.dT (putK (kvsOf G) (tks (seenL rw0.2 x)) (V.ref l)))) l = some (.lst []) := by
            rw [upd_ne (ne_of hl4 A4.dict (fun z => nomatch z))]; exact hl4
          refine ⟨.inl ⟨rfl, _, SqL.of hl5⟩, _, rfl, l, _, _, rfl, rfl, hl5, (by show 0 < sizeLine; exact small1000 (by omega)), ⟨_, rfl⟩, ?_, _, A5, ?_, fun g' hg' => ?_⟩
          · exact fun b o e => by rw [upd_ne (ne_of_none e hlH), upd_ne (ne_of_none e hd)]; exact s4 b o e
          · rw [forget_new ef, eG, tk, groupsL_snoc]
          · rcases List.mem_append.mp hg' with hg' | hg'
            · exact hf g' hg'
            · rw [List.mem_singleton.mp hg']; exact hlH
    · rintro σ H2 ⟨⟨v3, rfl⟩, s2, G, A2, eG, hf⟩
      refine ⟨_, rfl, q d G _ s2 hd A2 ?_⟩
      rw [eG]
      unfold refsOf
      rw [List.length_map, List.take_length]
end
end Own

namespace Own
open PySem L2
section
variable {P : Program} {w : World} {K : PySem.W.Frag} {mg : Str → Option Value} {base : Heap}
seal PySem.wpAny
abbrev sFirsts : Stmt := top 11
theorem scFirsts : FnScope ["book", "some"] ["book", "some"] (defScope sFirsts) := ⟨rfl, rfl, rfl, by decide +kernel, rfl, by decide +kernel, by decide +kernel⟩
theorem ok_firsts {f fU : Addr} {fd fdU : FuncData} (F : Fun K "firsts_on" "firsts_on" sFirsts f fd) (GU : FnOk P w K mg base CX0 4 fU fdU ["book", "some"] (spGroups K)) (mU : mg "groups_on" = some (.ref fU)) (kU : PySem.W.keepIn K (.ref fU) = true) (bU : Binds K fdU ["book", "some"] []) : FnOk P w K mg base CX0 5 f fd ["book", "some"] (spFirsts K) := by
  refine F.ok scFirsts (fun vs H Q E h => ?_) (fun cdv A outer s H vs Q E hr h => ?_)
  · obtain ⟨bk, rws, x, m, rfl, _⟩ := h
    rfl
  · obtain ⟨bk, rws, x, m, rfl, hB, hR, m1, m20, hlen, q⟩ := h
    refine ⟨_, (pss_one (ps_ret (pe_comp (xs := ["rows"]) (cs ["book", "some"] (defScope sFirsts) rfl rfl (by decide +kernel)) rfl (pi_vals (pe_call GU hr rfl mU kU bU .nil pass0 (pa_cons (pv 0) (pa_cons (pv 1) pa_nil)))) (fun _ _ _ => pg_name (i := 0) (show (["rows", "book", "some"] : List Str).Nodup by decide +kernel) rfl (Or.inl rfl)) (fun _ _ _ => pts_nil) (fun _ _ _ => (pe_ix (ix_listK (K := K) rfl) (pv 0) pe_int (fun _ _ => rfl)))))), ?_⟩
    refine ⟨_, rfl, _, rfl, bk, rws, x, m, rfl, hB, hR, m1, m20, hlen, fun d G H1 s1 hd A1 eG => ⟨d, _, rfl, A1.dict, fun ob => ?_⟩⟩
    obtain ⟨gl1, gl2⟩ := groups_len x rws
    obtain ⟨gk, gm, gc⟩ := groups_spec x rws
    have Gl := forget_len eG
    have kl : (kvsOf G).length = G.length := by unfold kvsOf; rw [List.length_map]
    have hdf : (upd H1 d (.frz ob (.dT (kvsOf G)))) d = some (.frz ob (.dT (kvsOf G))) := upd_same
    have sf : Same H (upd H1 d (.frz ob (.dT (kvsOf G)))) := fun b o e => by rw [upd_ne (ne_of_none e hd)]; exact s1 b o e
    have lf : ∀ g ∈ G, (upd H1 d (.frz ob (.dT (kvsOf G)))) g.at_ = some (.lst (refsOf g.rows)) := fun g hg => by
      rw [upd_ne (ne_of (A1.lists g hg) A1.dict (fun z => nomatch z))]; exact A1.lists g hg
    generalize upd H1 d (.frz ob (.dT (kvsOf G))) = H2 at hdf sf lf
    refine lc_vals (fun i acc H' => H' = H2 ∧ acc = refsOf ((G.take i).map fun g => g.rows.headD (0, []))) (by omega) ⟨rfl, rfl⟩ (fun i acc H' hi h => ?_) (fun i k v acc H' hv h => ?_) (fun acc H' h => ?_)
    · rw [h.1, h.2]
      refine ⟨hdf, ?_⟩
      unfold refsOf
      rw [List.length_map, List.length_map]
      exact List.length_take_le _ _
    · obtain ⟨rfl, rfl⟩ := h
      obtain ⟨g, eg, rfl⟩ := kvs_at hv
      have hg := List.mem_of_getElem? eg
      obtain ⟨ne, _⟩ := gm _ (forget_mem eG hg)
      obtain ⟨r0, rs, er⟩ : ∃ r0 rs, g.rows = r0 :: rs := by
        cases e : g.rows with
        | nil => exact absurd e ne
        | cons a b => exact ⟨a, b, rfl⟩
      refine ⟨rfl, _, rfl, g.at_, _, _, _, rfl, rfl, SqL.of (lf g hg), atI_nat (j := 0) (v := V.ref r0.1) (by rw [er]; rfl), rfl, ?_⟩
      rw [List.take_succ, eg]
      unfold refsOf
      rw [Option.toList_some, List.map_append, List.map_append, List.map_singleton, List.map_singleton, er]
      rfl
    · obtain ⟨rfl, rfl⟩ := h
      intro p hp
      rw [kl, List.take_length]
      have fst : ∀ g ∈ G, g.rows.headD (0, []) ∈ g.rows := fun g hg => by
        obtain ⟨ne, _⟩ := gm _ (forget_mem eG hg)
        cases e : g.rows with
        | nil => exact absurd e ne
        | cons a b => exact List.mem_cons_self
      refine q p _ _ (sf.trans (Same.new hp)) (sf.free hp) upd_same (fun f hf => ?_) (fun rw0 hr0 => ?_) (by rw [List.length_map]; omega)
      · obtain ⟨g, hg, rfl⟩ := List.mem_map.mp hf
        exact (((gm _ (forget_mem eG hg)).2 _).mp (fst g hg)).1
      · obtain ⟨y, hy, ey⟩ := gc rw0 hr0
        obtain ⟨g, hg, e1, e2⟩ := mem_forget eG hy
        refine ⟨_, List.mem_map.mpr ⟨g, hg, rfl⟩, ?_⟩
        have := (((gm _ (forget_mem eG hg)).2 _).mp (fst g hg)).2
        rw [this]
        show g.key = _
        rw [e1, ey]
abbrev sSettle : Stmt := top 12
theorem scSettle : FnScope ["book", "left", "right", "rows", "row"] ["book", "left", "right"] (defScope sSettle) := ⟨rfl, rfl, rfl, by decide +kernel, rfl, by decide +kernel, by decide +kernel⟩
theorem ok_settle {f fU fL : Addr} {fd fdU fdL : FuncData} (F : Fun K "settle_breach" "settle_breach" sSettle f fd) (GU : FnOk P w K mg base CX0 4 fU fdU ["book", "some"] (spGroups K)) (mU : mg "groups_on" = some (.ref fU)) (kU : PySem.W.keepIn K (.ref fU) = true) (bU : Binds K fdU ["book", "some"] []) (GL : FnOk P w K mg base CX0 3 fL fdL ["one", "other", "some"] (spAlike K)) (mL : mg "alike" = some (.ref fL)) (kL : PySem.W.keepIn K (.ref fL) = true) (bL : Binds K fdL ["one", "other", "some"] []) : FnOk P w K mg base CX0 5 f fd ["book", "left", "right"] (spSettle K) := by
  refine F.ok scSettle (fun vs H Q E h => ?_) (fun cdv A outer s H vs Q E hr h => ?_)
  · obtain ⟨bk, rws, x, y, m, rfl, _⟩ := h
    rfl
  · obtain ⟨bk, rws, x, y, m, rfl, hBk, hx, hy, qn, qp⟩ := h
    have nd := scSettle.nd
    have hr3 : Room 3 _ := hr.mono (by decide)
    obtain ⟨hB, hR, m1, m7, hlen⟩ := hBk
    have m8 : m < 8 := by omega
    have pw : 2 ^ m ≤ 2 ^ 7 := Nat.pow_le_pow_right (by decide) m7
    obtain ⟨gl1, gl2⟩ := groups_len x rws
    obtain ⟨gk, gm, gc⟩ := groups_spec x rws

    refine ⟨_, (pss_cons (ps_for PassesOwn.never rfl (pi_vals (pe_call GU hr rfl mU kU bU .nil pass0 (pa_cons (pv 0) (pa_cons (pv 1) pa_nil)))) (pg_name (i := 3) nd rfl (Or.inl rfl)) (pss_one (ps_for PassesOwn.never rfl (pi_listK (K := K) rfl (pv 3)) (pg_name (i := 4) nd rfl (Or.inl rfl)) (pss_one (ps_if (pt_not (pt_val (pe_call GL hr3 rfl mL kL bL .nil pass0 (pa_cons (pe_ix (ix_listK (K := K) rfl) (pv 3) pe_int (fun _ _ => rfl)) (pa_cons (pv 4) (pa_cons (pv 2) pa_nil)))))) (pss_one (ps_ret (pe_tup (pa_cons (pe_ix (ix_listK (K := K) rfl) (pv 3) pe_int (fun _ _ => rfl)) (pa_cons (pv 4) pa_nil))))) pss_nil)))))
      (pss_one (ps_ret pe_non))), ?_⟩
    refine ⟨_, rfl, _, rfl, bk, rws, x, m, rfl, hB, hR, m1, by omega, hlen, fun d G H1 s1 hd A1 eG => ⟨d, _, rfl, A1.dict, fun ob => ?_⟩⟩
    have Gl := forget_len eG
    have kl : (kvsOf G).length = G.length := by unfold kvsOf; rw [List.length_map]
    have hdf : (upd H1 d (.frz ob (.dT (kvsOf G)))) d = some (.frz ob (.dT (kvsOf G))) := upd_same
    have sf : Same H (upd H1 d (.frz ob (.dT (kvsOf G)))) := fun b o e => by rw [upd_ne (ne_of_none e hd)]; exact s1 b o e
    have lf : ∀ g ∈ G, (upd H1 d (.frz ob (.dT (kvsOf G)))) g.at_ = some (.lst (refsOf g.rows)) := fun g hg => by
      rw [upd_ne (ne_of (A1.lists g hg) A1.dict (fun z => nomatch z))]; exact A1.lists g hg
    generalize upd H1 d (.frz ob (.dT (kvsOf G))) = H2 at hdf sf lf
    have inG : ∀ g ∈ G, ∀ rw0, rw0 ∈ g.rows ↔ rw0 ∈ rws ∧ seenL rw0.2 x = g.key := fun g hg => (gm _ (forget_mem eG hg)).2

    refine for_vals (fun i σ H' => (∃ v3 v4, σ = [some (.ref bk), some (vN x), some (vN y), v3, v4]) ∧ Same H2 H' ∧ ∀ j g, j < i → G[j]? = some g → ∀ a ∈ g.rows, ∀ b ∈ g.rows, seenL a.2 y = seenL b.2 y) ⟨⟨none, none, rfl⟩, Same.refl _, fun j g h => absurd h (Nat.not_lt_zero _)⟩ (fun i σ H' _ h => h.2.1 _ _ hdf) ?_ ?_
    · rintro i k v σ H' hv ⟨⟨v3, v4, rfl⟩, s', hj⟩
      obtain ⟨g, eg, rfl⟩ := kvs_at hv
      have hg := List.mem_of_getElem? eg
      obtain ⟨ne, _⟩ := gm _ (forget_mem eG hg)
      obtain ⟨r0, rs, er⟩ : ∃ r0 rs, g.rows = r0 :: rs := by
        cases e : g.rows with
        | nil => exact absurd e ne
        | cons a b => exact ⟨a, b, rfl⟩
      have hr0 : r0 ∈ g.rows := by rw [er]; exact List.mem_cons_self
      obtain ⟨r0r, r0k⟩ := (inG g hg r0).mp hr0
      obtain ⟨t0, l0⟩ := hR r0 r0r
      refine ⟨_, rfl, g.at_, rfl, ⟨_, SqL.of (s' _ _ (lf g hg))⟩, for_list (xs := refsOf g.rows) (fun j σ H'' => (∃ v4, σ = [some (.ref bk), some (vN x), some (vN y), some (.ref g.at_), v4]) ∧ Same H2 H'' ∧ ∀ b ∈ g.rows.take j, seenL r0.2 y = seenL b.2 y) ⟨⟨_, rfl⟩, s', fun b h => absurd h (by rw [List.take_zero]; exact List.not_mem_nil)⟩ (fun j σ H'' _ h => SqL.of (h.2.1 _ _ (lf g hg))) ?_ ?_⟩
      · rintro j v σ H'' hv' ⟨⟨v4', rfl⟩, s'', hb⟩
        unfold refsOf at hv'
        rw [List.getElem?_map] at hv'
        cases eb : g.rows[j]? with
        | none => rw [eb] at hv'; cases hv'
        | some b =>
          rw [eb] at hv'
          obtain rfl := (Option.some.inj hv').symm
          have hbm := List.mem_of_getElem? eb
          obtain ⟨bb, bk'⟩ := (inG g hg b).mp hbm
          obtain ⟨tb, lb⟩ := hR b bb
          have S := sf.trans s''
          have cl : ∀ c ∈ colsN y, c < m := fun c hc => ((mem_cols m8 hy).mp hc).1
          refine ⟨_, rfl, g.at_, _, _, _, rfl, rfl, SqL.of (s'' _ _ (lf g hg)), atI_nat (j := 0) (v := V.ref r0.1) (by rw [er]; rfl), _, rfl, _, rfl, r0.1, b.1, r0.2, b.2, y, rfl, SqT.of (S _ _ t0), SqT.of (S _ _ tb), by omega, fun c hc => ⟨by have := cl c hc; omega, by have := cl c hc; omega⟩, fun H3 s3 => ⟨_, rfl, ?_⟩⟩
          have S3 := S.trans s3
          cases ea : alikeL r0.2 b.2 y with
          | true =>
            refine iteF ?_
            refine ⟨⟨_, rfl⟩, s''.trans s3, fun c hc => ?_⟩
            rw [List.take_succ, eb] at hc
            rcases List.mem_append.mp hc with hc | hc
            · exact hb c hc
            · have ec : c = b := by simpa using hc
              rw [ec]
              exact (alike_seen m8 hy l0 lb).mp ea
          | false =>
            refine iteT ?_
            refine ⟨_, rfl, g.at_, _, _, _, rfl, rfl, SqL.of (s3 _ _ (s'' _ _ (lf g hg))), atI_nat (j := 0) (v := V.ref r0.1) (by rw [er]; rfl), _, rfl, (by show 2 ≤ sizeLine; decide), fun p hp => ?_⟩
            refine qp p r0 b _ ⟨r0r, bb, by rw [r0k, bk'], fun e => ?_⟩ (S3.trans (Same.new hp)) (S3.free hp) upd_same
            rw [(alike_seen m8 hy l0 lb).mpr e] at ea
            cases ea
      · rintro σ H'' ⟨⟨v4', rfl⟩, s'', hb⟩
        have hb' : ∀ b ∈ g.rows, seenL r0.2 y = seenL b.2 y := fun b hbm => hb b (by
          unfold refsOf
          rw [List.length_map, List.take_length]; exact hbm)
        refine ⟨⟨_, _, rfl⟩, s'', fun j g' hj' eg' => ?_⟩
        rcases Nat.lt_succ_iff_lt_or_eq.mp hj' with z | rfl
        · exact hj j g' z eg'
        · rw [eg] at eg'
          obtain rfl := Option.some.inj eg'
          exact fun a ha b hb'' => (hb' a ha).symm.trans (hb' b hb'')
    · rintro σ H' ⟨⟨v3, v4, rfl⟩, s', hj⟩
      refine qn H' (sf.trans s') fun a ha b hb hab => ?_
      obtain ⟨z, hz, ez⟩ := gc a ha
      obtain ⟨g, hg, e1, e2⟩ := mem_forget eG hz
      obtain ⟨j, hjl, ej⟩ := List.getElem_of_mem hg
      refine hj j g (by rw [kl]; exact hjl) (by rw [List.getElem?_eq_getElem hjl, ej]) a ((inG g hg a).mpr ⟨ha, by rw [e1, ez]⟩) b ((inG g hg b).mpr ⟨hb, by rw [e1, ez, hab]⟩)
abbrev sLack : Stmt := top 13
theorem scLack : FnScope ["rows", "held", "there", "rest", "others", "one", "other"] ["rows", "held"] (defScope sLack) := ⟨rfl, rfl, rfl, by decide +kernel, rfl, by decide +kernel, by decide +kernel⟩
theorem ok_lack {f fA fF fM : Addr} {fd fdA fdF fdM : FuncData} (F : Fun K "lacking_mix" "lacking_mix" sLack f fd) (GA : FnOk P w K mg base CX0 1 fA fdA ["many"] spAllOf) (mA : mg "all_of" = some (.ref fA)) (kA : PySem.W.keepIn K (.ref fA) = true) (bA : Binds K fdA ["many"] []) (GF : FnOk P w K mg base CX0 5 fF fdF ["book", "some"] (spFirsts K)) (mF : mg "firsts_on" = some (.ref fF)) (kF : PySem.W.keepIn K (.ref fF) = true) (bF : Binds K fdF ["book", "some"] []) (GM : FnOk P w K mg base CX0 2 fM fdM ["one", "other", "some"] (spMixed K)) (mM : mg "mixed" = some (.ref fM)) (kM : PySem.W.keepIn K (.ref fM) = true) (bM : Binds K fdM ["one", "other", "some"] []) (zdict : mg "dict" = none) (zlen : mg "len" = none) : FnOk P w K mg base CX0 6 f fd ["rows", "held"] (spLack K) := by
  refine F.ok scLack (fun vs H Q E h => ?_) (fun cdv A outer s H vs Q E hr h => ?_)
  · obtain ⟨bk, rws, x, m, rfl, _⟩ := h
    rfl
  · obtain ⟨bk, rws, x, m, rfl, hBk, hx, hne, qn, qp⟩ := h
    have nd := scLack.nd
    have hr1 : Room 1 _ := hr.mono (by decide)
    have hr2 : Room 2 _ := hr.mono (by decide)
    have hBk' := hBk
    obtain ⟨hB, hR, m1, m7, hlen⟩ := hBk
    have m8 : m < 8 := by omega
    have pw : 2 ^ m ≤ 2 ^ 7 := Nat.pow_le_pow_right (by decide) m7
    obtain ⟨r0, rs0, er0⟩ : ∃ r0 rs, rws = r0 :: rs := by
      cases e : rws with
      | nil => exact absurd e hne
      | cons a b => exact ⟨a, b, rfl⟩
    have hr0 : r0 ∈ rws := by rw [er0]; exact List.mem_cons_self
    refine ⟨_, (pss_cons (ps_set (i := 2) nd rfl (Or.inl rfl) (pe_callTy (call_dictPrs rfl hr.units) (by rfl) zdict PyProof.Rows.boot_dict (pa_cons (pe_comp (xs := ["row"]) (cs ["rows", "held", "there", "rest", "others", "one", "other"] (defScope sLack) rfl rfl (by decide +kernel)) rfl (pi_listK (K := K) rfl (pv 0)) (fun _ _ _ => pg_name (i := 0) (show (["row", "rows", "held", "there", "rest", "others", "one", "other"] : List Str).Nodup by decide +kernel) rfl (Or.inl rfl)) (fun _ _ _ => pts_nil) (fun _ _ _ => (pe_tup (pa_cons (pv 0) (pa_cons pe_bl pa_nil))))) pa_nil)))
      (pss_cons (ps_set (i := 3) nd rfl (Or.inl rfl) (pe_op op_and (pe_call GA hr1 rfl mA kA bA .nil pass0 (pa_cons (pe_callB (call_lenK (K := K) rfl) (by rfl) zlen PySem.boot_len (pa_cons (pe_ix (ix_listK (K := K) rfl) (pv 0) pe_int (fun _ _ => rfl)) pa_nil)) pa_nil)) (pe_un un_inv (pv 1))))
      (pss_cons (ps_set (i := 4) nd rfl (Or.inl rfl) (pe_call GF hr rfl mF kF bF .nil pass0 (pa_cons (pv 0) (pa_cons (pv 3) pa_nil))))
      (pss_cons (ps_for PassesOwn.never rfl (pi_listK (K := K) rfl (pe_call GF hr rfl mF kF bF .nil pass0 (pa_cons (pv 0) (pa_cons (pv 1) pa_nil)))) (pg_name (i := 5) nd rfl (Or.inl rfl)) (pss_one (ps_for PassesOwn.never rfl (pi_listK (K := K) rfl (pv 4)) (pg_name (i := 6) nd rfl (Or.inl rfl)) (pss_one (ps_if (pt_cmp (pc_dnotin (hu_of hr) (pe_call GM hr2 rfl mM kM bM .nil pass0 (pa_cons (pv 5) (pa_cons (pv 6) (pa_cons (pv 1) pa_nil)))) (pv 2))) (pss_one (ps_ret (pe_tup (pa_cons (pv 5) (pa_cons (pv 6) pa_nil))))) pss_nil)))))
      (pss_one (ps_ret pe_non)))))), ?_⟩
    -- there
    refine ⟨_, rfl, bk, rfl, ⟨_, hB⟩, lc_list (xs := refsOf rws) (fun i acc H' => ∃ ps : List Pr, acc = ps.map (fun p => V.ref p.t) ∧ ps.length = i ∧ Same H H' ∧ (∀ p ∈ ps, p.At H') ∧ ps.map (·.k) = (rws.take i).map fun rw0 => tks rw0.2) (by unfold refsOf; rw [List.length_map]; omega)
      ⟨[], rfl, rfl, Same.refl _, (fun p h => absurd h List.not_mem_nil), rfl⟩ (fun i acc H' hi h => ?_) (fun i v acc H' hv h => ?_) (fun acc H' h => ?_)⟩
    · obtain ⟨ps, rfl, e, s', _⟩ := h
      exact ⟨s'.seq hB, by rw [List.length_map, e]; exact Nat.le_refl _⟩
    · obtain ⟨ps, rfl, e, s', hAt, hk⟩ := h
      unfold refsOf at hv
      rw [List.getElem?_map] at hv
      cases er : rws[i]? with
      | none => rw [er] at hv; cases hv
      | some b =>
        rw [er] at hv
        obtain rfl := (Option.some.inj hv).symm
        obtain ⟨tb, lb⟩ := hR b (List.mem_of_getElem? er)
        refine ⟨rfl, _, rfl, (by show 2 ≤ sizeLine; decide), fun t ht => ?_⟩
        have sn := Same.new (o := .tup [V.ref b.1, V.bl true]) ht
        refine ⟨ps ++ [⟨t, tks b.2, b.1, .bl true⟩], by rw [List.map_append]; rfl, by rw [List.length_append, e]; rfl, s'.trans sn, fun p hp => ?_, ?_⟩
        · rcases List.mem_append.mp hp with hp | hp
          · exact ⟨sn _ _ (hAt p hp).1, sn _ _ (hAt p hp).2⟩
          · rw [List.mem_singleton.mp hp]
            exact ⟨upd_same, by rw [tks_kV]; exact sn _ _ (s' _ _ tb)⟩
        · rw [List.map_append, hk, List.take_succ, er, List.map_append]
          rfl
    obtain ⟨ps, rfl, epl, s1, hAt, hk⟩ := h
    have rl : (refsOf rws).length = rws.length := by unfold refsOf; rw [List.length_map]
    rw [rl, List.take_length] at hk
    intro l hl
    have sl := Same.new (o := .lst (ps.map fun p => V.ref p.t)) hl
    refine ⟨l, ps, rfl, upd_same, fun p hp => ⟨sl _ _ (hAt p hp).1, sl _ _ (hAt p hp).2⟩, by omega, fun d hd => ?_⟩
    have s2 : Same H (upd (upd H' l (.lst (ps.map fun p => V.ref p.t))) d (.dT (putAll [] ps))) := s1.trans (sl.trans (Same.new hd))
    have hd2 : (upd (upd H' l (.lst (ps.map fun p => V.ref p.t))) d (.dT (putAll [] ps))) d = some (.dT (putAll [] ps)) := upd_same
    generalize upd (upd H' l (.lst (ps.map fun p => V.ref p.t))) d (.dT (putAll [] ps)) = H2 at s2 hd2
    -- rest
    obtain ⟨t0, l0⟩ := hR r0 hr0
    refine ⟨_, rfl, bk, _, _, _, rfl, rfl, s2.seq hB, atI_nat (j := 0) (v := V.ref r0.1) (by rw [er0]; rfl), r0.1, _, rfl, .inr (SqT.of (s2 _ _ t0)), (r0.2.map V.int).length, rfl, by rw [List.length_map]; omega, _, rfl, _, rfl, _, _, rfl, rfl, ?_⟩
    dsimp only
    rw [List.length_map, l0, rest_eq m m8 x hx]
    have hrest : 2 ^ m - 1 - x < 2 ^ m := by omega
    -- others
    refine ⟨_, rfl, _, rfl, bk, rws, 2 ^ m - 1 - x, m, rfl, s2.seq hB, hR.same s2, m1, by omega, hlen, fun po fo H3 s3 hpo hpo3 fo1 fo2 fo3 => ?_⟩
    refine ⟨_, rfl, _, rfl, bk, rws, x, m, rfl, (s2.trans s3).seq hB, (hR.same s2).same s3, m1, by omega, hlen, fun pe fe H4 s4 hpe hpe4 fe1 fe2 fe3 => ?_⟩
    have s24 : Same H2 H4 := s3.trans s4
    have hpo4 := s4 _ _ hpo3
    refine ⟨pe, rfl, ⟨_, SqL.of hpe4⟩, for_list (xs := refsOf fe) (fun i σ H' => (∃ v5 v6, σ = [some (.ref bk), some (vN x), some (.ref d), some (vN (2 ^ m - 1 - x)), some (.ref po), v5, v6]) ∧ Same H4 H' ∧ ∀ a ∈ fe.take i, ∀ b ∈ fo, ∃ c ∈ rws, c.2 = mixL a.2 b.2 x) ⟨⟨none, none, rfl⟩, Same.refl _, fun a h => absurd h (by rw [List.take_zero]; exact List.not_mem_nil)⟩ (fun i σ H' _ h => SqL.of (h.2.1 _ _ hpe4)) ?_ ?_⟩
    · rintro i v σ H' hv ⟨⟨v5, v6, rfl⟩, s', hc⟩
      unfold refsOf at hv
      rw [List.getElem?_map] at hv
      cases er : fe[i]? with
      | none => rw [er] at hv; cases hv
      | some a =>
        rw [er] at hv
        obtain rfl := (Option.some.inj hv).symm
        have ha := fe1 a (List.mem_of_getElem? er)
        obtain ⟨ta, la⟩ := hR a ha
        refine ⟨_, rfl, po, rfl, ⟨_, SqL.of (s' _ _ hpo4)⟩, for_list (xs := refsOf fo) (fun j σ H'' => (∃ v6, σ = [some (.ref bk), some (vN x), some (.ref d), some (vN (2 ^ m - 1 - x)), some (.ref po), some (.ref a.1), v6]) ∧ Same H4 H'' ∧ ∀ b ∈ fo.take j, ∃ c ∈ rws, c.2 = mixL a.2 b.2 x) ⟨⟨_, rfl⟩, s', fun b h => absurd h (by rw [List.take_zero]; exact List.not_mem_nil)⟩ (fun j σ H'' _ h => SqL.of (h.2.1 _ _ hpo4)) ?_ ?_⟩
        · rintro j v σ H'' hv' ⟨⟨v6', rfl⟩, s'', hc'⟩
          unfold refsOf at hv'
          rw [List.getElem?_map] at hv'
          cases eb : fo[j]? with
          | none => rw [eb] at hv'; cases hv'
          | some b =>
            rw [eb] at hv'
            obtain rfl := (Option.some.inj hv').symm
            have hb := fo1 b (List.mem_of_getElem? eb)
            obtain ⟨tb, lb⟩ := hR b hb
            have S : Same H H'' := s2.trans (s24.trans s'')
            refine ⟨_, rfl, _, rfl, _, rfl, a.1, b.1, a.2, b.2, x, rfl, SqT.of (S _ _ ta), SqT.of (S _ _ tb), by omega, by omega, fun p5 H5 s5 hp5 hp6 => ?_⟩
            have hd5 := s5 _ _ (s'' _ _ (s24 _ _ hd2))
            refine ⟨_, rfl, d, _, rfl, DGet.t (k := tks (mixL a.2 b.2 x)) hd5 (by rw [tks_kV]; exact hp6), _, rfl, ?_⟩
            rw [valV_putAll]
            have iff : (ps.any fun p => decide (p.k = tks (mixL a.2 b.2 x))) = true ↔ ∃ c ∈ rws, c.2 = mixL a.2 b.2 x := by
              rw [List.any_eq_true]
              constructor
              · rintro ⟨p, hp, e⟩
                have : p.k ∈ rws.map fun rw0 => tks rw0.2 := by rw [← hk]; exact List.mem_map.mpr ⟨p, hp, rfl⟩
                obtain ⟨c, hcm, ec⟩ := List.mem_map.mp this
                exact ⟨c, hcm, tks_inj (ec.trans (of_decide_eq_true e))⟩
              · rintro ⟨c, hcm, ec⟩
                have : tks c.2 ∈ ps.map (·.k) := by rw [hk]; exact List.mem_map.mpr ⟨c, hcm, rfl⟩
                obtain ⟨p, hp, ep⟩ := List.mem_map.mp this
                exact ⟨p, hp, decide_eq_true (by rw [ep, ec])⟩
            cases en : (ps.any fun p => decide (p.k = tks (mixL a.2 b.2 x))) with
            | true =>
              refine iteF ?_
              refine ⟨⟨_, rfl⟩, s''.trans s5, fun c hcc => ?_⟩
              rw [List.take_succ, eb] at hcc
              rcases List.mem_append.mp hcc with hcc | hcc
              · exact hc' c hcc
              · have ec : c = b := by simpa using hcc
                rw [ec]
                exact iff.mp en
            | false =>
              refine iteT ?_
              refine ⟨_, rfl, _, rfl, (by show 2 ≤ sizeLine; decide), fun p hp => ?_⟩
              refine qp p a b _ ⟨ha, hb, fun c hcm ec => ?_⟩ ((S.trans s5).trans (Same.new hp)) ((S.trans s5).free hp) upd_same
              rw [iff.mpr ⟨c, hcm, ec⟩] at en
              cases en
        · rintro σ H'' ⟨⟨v6', rfl⟩, s'', hc'⟩
          have fl : (refsOf fo).length = fo.length := by unfold refsOf; rw [List.length_map]
          rw [fl, List.take_length] at hc'
          refine ⟨⟨_, _, rfl⟩, s'', fun c hcc => ?_⟩
          rw [List.take_succ, er] at hcc
          rcases List.mem_append.mp hcc with hcc | hcc
          · exact hc c hcc
          · have ec : c = a := by simpa using hcc
            rw [ec]
            exact hc'
    · rintro σ H' ⟨⟨v5, v6, rfl⟩, s', hc⟩
      have fl : (refsOf fe).length = fe.length := by unfold refsOf; rw [List.length_map]
      rw [fl, List.take_length] at hc
      refine qn H' (s2.trans (s24.trans s')) fun a ha b hb => ?_
      obtain ⟨a', ha', ea⟩ := fe2 a ha
      obtain ⟨b', hb', eb⟩ := fo2 b hb
      obtain ⟨c, hcm, ec⟩ := hc a' ha' b' hb'
      refine ⟨c, hcm, ec.trans ?_⟩
      exact mix_congr m8 hx (hR a' (fe1 a' ha')).2 (hR b' (fo1 b' hb')).2 (hR a ha).2 (hR b hb).2 ea eb
end
end Own

namespace Own
open PySem L2
section
variable {P : Program} {w : World} {K : PySem.W.Frag} {mg : Str → Option Value} {base : Heap}
seal PySem.wpAny
abbrev sDeal : Stmt := top 14
theorem scDeal : FnScope ["book", "left", "right", "rows", "found"] ["book", "left", "right"] (defScope sDeal) := ⟨rfl, rfl, rfl, by decide +kernel, rfl, by decide +kernel, by decide +kernel⟩
theorem ok_deal {f fU fX : Addr} {fd fdU fdX : FuncData} (F : Fun K "deal_breach" "deal_breach" sDeal f fd) (GU : FnOk P w K mg base CX0 4 fU fdU ["book", "some"] (spGroups K)) (mU : mg "groups_on" = some (.ref fU)) (kU : PySem.W.keepIn K (.ref fU) = true) (bU : Binds K fdU ["book", "some"] []) (GX : FnOk P w K mg base CX0 6 fX fdX ["rows", "held"] (spLack K)) (mX : mg "lacking_mix" = some (.ref fX)) (kX : PySem.W.keepIn K (.ref fX) = true) (bX : Binds K fdX ["rows", "held"] []) : FnOk P w K mg base CX0 7 f fd ["book", "left", "right"] (spDeal K) := by
  refine F.ok scDeal (fun vs H Q E h => ?_) (fun cdv A outer s H vs Q E hr h => ?_)
  · obtain ⟨bk, rws, x, y, m, rfl, _⟩ := h
    rfl
  · obtain ⟨bk, rws, x, y, m, rfl, hBk, hx, hy, qn, qp⟩ := h
    have nd := scDeal.nd
    have hr4 : Room 4 _ := hr.mono (by decide)
    obtain ⟨hB, hR, m1, m7, hlen⟩ := hBk
    have m8 : m < 8 := by omega
    have pw : 2 ^ m ≤ 2 ^ 7 := Nat.pow_le_pow_right (by decide) m7
    obtain ⟨gl1, gl2⟩ := groups_len x rws
    obtain ⟨gk, gm, gc⟩ := groups_spec x rws

    refine ⟨_, (pss_cons (ps_for PassesOwn.never rfl (pi_vals (pe_call GU hr4 rfl mU kU bU .nil pass0 (pa_cons (pv 0) (pa_cons (pv 1) pa_nil)))) (pg_name (i := 3) nd rfl (Or.inl rfl)) (pss_cons (ps_set (i := 4) nd rfl (Or.inl rfl) (pe_call GX hr rfl mX kX bX .nil pass0 (pa_cons (pv 3) (pa_cons (pe_op op_orN (pv 1) (pv 2)) pa_nil))))
      (pss_one (ps_if (pt_cmpR op_notN (pv 4) pe_non (nomark _)) (pss_one (ps_ret (pv 4))) pss_nil))))
      (pss_one (ps_ret pe_non))), ?_⟩
    refine ⟨_, rfl, _, rfl, bk, rws, x, m, rfl, hB, hR, m1, by omega, hlen, fun d G H1 s1 hd A1 eG => ⟨d, _, rfl, A1.dict, fun ob => ?_⟩⟩
    have Gl := forget_len eG
    have kl : (kvsOf G).length = G.length := by unfold kvsOf; rw [List.length_map]
    have hdf : (upd H1 d (.frz ob (.dT (kvsOf G)))) d = some (.frz ob (.dT (kvsOf G))) := upd_same
    have sf : Same H (upd H1 d (.frz ob (.dT (kvsOf G)))) := fun b o e => by rw [upd_ne (ne_of_none e hd)]; exact s1 b o e
    have lf : ∀ g ∈ G, (upd H1 d (.frz ob (.dT (kvsOf G)))) g.at_ = some (.lst (refsOf g.rows)) := fun g hg => by
      rw [upd_ne (ne_of (A1.lists g hg) A1.dict (fun z => nomatch z))]; exact A1.lists g hg
    generalize upd H1 d (.frz ob (.dT (kvsOf G))) = H2 at hdf sf lf
    have inG : ∀ g ∈ G, ∀ rw0, rw0 ∈ g.rows ↔ rw0 ∈ rws ∧ seenL rw0.2 x = g.key := fun g hg => (gm _ (forget_mem eG hg)).2

    have hxy : x ||| y < 2 ^ m := Nat.or_lt_two_pow hx hy
    refine for_vals (fun i σ H' => (∃ v3 v4, σ = [some (.ref bk), some (vN x), some (vN y), v3, v4]) ∧ Same H2 H' ∧ ∀ j g, j < i → G[j]? = some g → ∀ a ∈ g.rows, ∀ b ∈ g.rows, ∃ c ∈ g.rows, c.2 = mixL a.2 b.2 (x ||| y)) ⟨⟨none, none, rfl⟩, Same.refl _, fun j g h => absurd h (Nat.not_lt_zero _)⟩ (fun i σ H' _ h => h.2.1 _ _ hdf) ?_ ?_
    · rintro i k v σ H' hv ⟨⟨v3, v4, rfl⟩, s', hj⟩
      obtain ⟨g, eg, rfl⟩ := kvs_at hv
      have hg := List.mem_of_getElem? eg
      obtain ⟨ne, _⟩ := gm _ (forget_mem eG hg)
      have gr : ∀ b ∈ g.rows, b ∈ rws := fun b hb => ((inG g hg b).mp hb).1
      have S := sf.trans s'
      have gl : g.rows.length ≤ rws.length := gl2 _ (forget_mem eG hg)
      refine ⟨_, rfl, _, rfl, _, rfl, x, y, rfl, rfl, g.at_, g.rows, x ||| y, m, rfl, ⟨SqL.of (s' _ _ (lf g hg)), fun b hb => (hR.same S) b (gr b hb), m1, m7, by omega⟩, hxy, ne, fun H3 s3 ok => ?_, fun p a b H3 bad s3 hp hp3 => ?_⟩
      · refine ⟨_, rfl, rfl, _, rfl, ?_⟩
        refine iteF ?_
        refine ⟨⟨_, _, rfl⟩, s'.trans s3, fun j g' hj' eg' => ?_⟩
        rcases Nat.lt_succ_iff_lt_or_eq.mp hj' with z | rfl
        · exact hj j g' z eg'
        · rw [eg] at eg'
          obtain rfl := Option.some.inj eg'
          exact ok
      · refine ⟨_, rfl, rfl, _, rfl, ?_⟩
        refine iteT ?_
        refine ⟨_, rfl, ?_⟩
        obtain ⟨ha, hb, hc⟩ := bad
        obtain ⟨ha1, ha2⟩ := (inG g hg a).mp ha
        obtain ⟨hb1, hb2⟩ := (inG g hg b).mp hb
        refine qp p a b H3 ⟨ha1, hb1, ha2.trans hb2.symm, fun c hcm ec => hc c ((inG g hg c).mpr ⟨hcm, ?_⟩) ec⟩ (S.trans s3) (S.free hp) hp3
        rw [ec, seen_mix m8 hx hy (hR a ha1).2, ha2]
    · rintro σ H' ⟨⟨v3, v4, rfl⟩, s', hj⟩
      refine qn H' (sf.trans s') fun a ha b hb hab => ?_
      obtain ⟨z, hz, ez⟩ := gc a ha
      obtain ⟨g, hg, e1, e2⟩ := mem_forget eG hz
      obtain ⟨j, hjl, ej⟩ := List.getElem_of_mem hg
      obtain ⟨c, hc, ec⟩ := hj j g (by rw [kl]; exact hjl) (by rw [List.getElem?_eq_getElem hjl, ej]) a ((inG g hg a).mpr ⟨ha, by rw [e1, ez]⟩) b ((inG g hg b).mpr ⟨hb, by rw [e1, ez, hab]⟩)
      exact ⟨c, ((inG g hg c).mp hc).1, ec⟩
abbrev sBreach : Stmt := top 15
theorem scBreach : FnScope ["book", "rule"] ["book", "rule"] (defScope sBreach) := ⟨rfl, rfl, rfl, by decide +kernel, rfl, by decide +kernel, by decide +kernel⟩
theorem ok_breach {f fS2 fD2 : Addr} {fd fdS2 fdD2 : FuncData} (F : Fun K "breach" "breach" sBreach f fd) (GS2 : FnOk P w K mg base CX0 5 fS2 fdS2 ["book", "left", "right"] (spSettle K)) (mS2 : mg "settle_breach" = some (.ref fS2)) (kS2 : PySem.W.keepIn K (.ref fS2) = true) (bS2 : Binds K fdS2 ["book", "left", "right"] []) (GD2 : FnOk P w K mg base CX0 7 fD2 fdD2 ["book", "left", "right"] (spDeal K)) (mD2 : mg "deal_breach" = some (.ref fD2)) (kD2 : PySem.W.keepIn K (.ref fD2) = true) (bD2 : Binds K fdD2 ["book", "left", "right"] []) : FnOk P w K mg base CX0 8 f fd ["book", "rule"] (spBreach K) := by
  refine F.ok scBreach (fun vs H Q E h => ?_) (fun cdv A outer s H vs Q E hr h => ?_)
  · obtain ⟨bk, r, rws, st, x, y, m, rfl, _⟩ := h
    rfl
  · obtain ⟨bk, r, rws, st, x, y, m, rfl, hBk, hr', hx, hy, qn, qp⟩ := h
    have hr5 : Room 5 _ := hr.mono (by decide)
    refine ⟨_, (pss_cons (ps_if (pt_cmpR op_eq (pe_ix (ix_tupK (K := K) rfl) (pv 1) pe_int (fun _ _ => rfl)) pe_str (nomark _)) (pss_one (ps_ret (pe_call GS2 hr5 rfl mS2 kS2 bS2 .nil pass0 (pa_cons (pv 0) (pa_cons (pe_ix (ix_tupK (K := K) rfl) (pv 1) pe_int (fun _ _ => rfl)) (pa_cons (pe_ix (ix_tupK (K := K) rfl) (pv 1) pe_int (fun _ _ => rfl)) pa_nil)))))) pss_nil)
      (pss_one (ps_ret (pe_call GD2 hr rfl mD2 kD2 bD2 .nil pass0 (pa_cons (pv 0) (pa_cons (pe_ix (ix_tupK (K := K) rfl) (pv 1) pe_int (fun _ _ => rfl)) (pa_cons (pe_ix (ix_tupK (K := K) rfl) (pv 1) pe_int (fun _ _ => rfl)) pa_nil))))))), ?_⟩
    have ix : ∀ (j : Nat) (v : V), ([.str (wordS st), vN x, vN y] : List V)[j]? = some v → atI ([.str (wordS st), vN x, vN y] : List V) (j : Int) = some v := fun j v e => atI_nat e
    refine ⟨_, rfl, r, _, _, _, rfl, rfl, SqT.of hr', ix 0 _ rfl, rfl, _, rfl, ?_⟩
    cases st with
    | true =>
      refine iteT ?_
      refine ⟨_, rfl, _, rfl, r, _, _, _, rfl, rfl, SqT.of hr', ix 1 _ rfl, _, rfl, r, _, _, _, rfl, rfl, SqT.of hr', ix 2 _ rfl, ?_⟩
      exact ⟨bk, rws, x, y, m, rfl, hBk, hx, hy, fun H' s' ok => qn H' s' ok, fun p a b H' bad s' hp hp' => qp p a b H' bad s' hp hp'⟩
    | false =>
      refine ite2 (fun hc => ?_) (fun _ => ?_)
      · exact absurd (of_decide_eq_true hc) (by intro z; injection z with z; revert z; decide)
      refine ⟨_, rfl, _, rfl, r, _, _, _, rfl, rfl, SqT.of hr', ix 1 _ rfl, _, rfl, r, _, _, _, rfl, rfl, SqT.of hr', ix 2 _ rfl, ?_⟩
      exact ⟨bk, rws, x, y, m, rfl, hBk, hx, hy, fun H' s' ok => qn H' s' ok, fun p a b H' bad s' hp hp' => qp p a b H' bad s' hp hp'⟩
abbrev sKeeps : Stmt := top 16
theorem scKeeps : FnScope ["book", "rules", "rule"] ["book", "rules"] (defScope sKeeps) := ⟨rfl, rfl, rfl, by decide +kernel, rfl, by decide +kernel, by decide +kernel⟩
theorem ok_keeps {f fB : Addr} {fd fdB : FuncData} (F : Fun K "keeps" "keeps" sKeeps f fd) (GB : FnOk P w K mg base CX0 8 fB fdB ["book", "rule"] (spBreach K)) (mB : mg "breach" = some (.ref fB)) (kB : PySem.W.keepIn K (.ref fB) = true) (bB : Binds K fdB ["book", "rule"] []) : FnOk P w K mg base CX0 9 f fd ["book", "rules"] (spKeeps K) := by
  refine F.ok scKeeps (fun vs H Q E h => ?_) (fun cdv A outer s H vs Q E hr h => ?_)
  · obtain ⟨bk, rl, rws, rs, m, rfl, _⟩ := h
    rfl
  · obtain ⟨bk, rl, rws, rs, m, rfl, hBk, hrl, hlen, hrs, q⟩ := h
    have nd := scKeeps.nd
    refine ⟨_, (pss_cons (ps_for PassesOwn.never rfl (pi_listK (K := K) rfl (pv 1)) (pg_name (i := 2) nd rfl (Or.inl rfl)) (pss_one (ps_if (pt_cmpR op_notN (pe_call GB hr rfl mB kB bB .nil pass0 (pa_cons (pv 0) (pa_cons (pv 2) pa_nil))) pe_non (nomark _)) (pss_one (ps_ret pe_bl)) pss_nil)))
      (pss_one (ps_ret pe_bl))), ?_⟩
    refine ⟨_, rfl, rl, rfl, ⟨_, hrl⟩, for_list (xs := rs.map fun r => V.ref r.r) (fun i σ H' => (∃ v, σ = [some (.ref bk), some (.ref rl), v]) ∧ Same H H' ∧ ∀ r ∈ rs.take i, ROk rws r.st r.x r.y) ⟨⟨none, rfl⟩, Same.refl _, fun r h => absurd h (by rw [List.take_zero]; exact List.not_mem_nil)⟩ (fun i σ H' _ h => h.2.1.seq hrl) ?_ ?_⟩
    · rintro i v σ H' hv ⟨⟨v2, rfl⟩, s', hok⟩
      rw [List.getElem?_map] at hv
      cases er : rs[i]? with
      | none => rw [er] at hv; cases hv
      | some r =>
        rw [er] at hv
        obtain rfl := (Option.some.inj hv).symm
        obtain ⟨ra, rx, ry⟩ := hrs r (List.mem_of_getElem? er)
        refine ⟨_, rfl, _, rfl, bk, r.r, rws, r.st, r.x, r.y, m, rfl, hBk.same s', s' _ _ ra, rx, ry, fun H3 s3 ok => ?_, fun p a b H3 bad s3 hp hp3 => ?_⟩
        · refine ⟨rfl, _, rfl, ?_⟩
          refine iteF ?_
          refine ⟨⟨_, rfl⟩, s'.trans s3, fun z hz => ?_⟩
          rw [List.take_succ, er] at hz
          rcases List.mem_append.mp hz with hz | hz
          · exact hok z hz
          · have ez : z = r := by simpa using hz
            rw [ez]; exact ok
        · refine ⟨rfl, _, rfl, ?_⟩
          refine iteT ?_
          exact q false _ (s'.trans s3) ⟨fun z => absurd z Bool.false_ne_true, fun all => absurd (all r (List.mem_of_getElem? er)) bad.not⟩
    · rintro σ H' ⟨⟨v2, rfl⟩, s', hok⟩
      refine q true H' s' ⟨fun _ => ?_, fun _ => rfl⟩
      rw [List.length_map, List.take_length] at hok
      exact hok
end
end Own

namespace Own
open PySem L2
section
variable {P : Program} {w : World} {K : PySem.W.Frag} {mg : Str → Option Value} {base : Heap}
seal PySem.wpAny
abbrev sUnlike : Stmt := top 25
theorem scUnlike : FnScope ["one", "other", "some", "column"] ["one", "other", "some"] (defScope sUnlike) := ⟨rfl, rfl, rfl, by decide +kernel, rfl, by decide +kernel, by decide +kernel⟩
theorem ok_unlike {f fC : Addr} {fd fdC : FuncData} (F : Fun K "first_unlike" "first_unlike" sUnlike f fd) (GC : FnOk P w K mg base CX0 2 fC fdC ["some"] spCols) (mC : mg "columns_of" = some (.ref fC)) (kC : PySem.W.keepIn K (.ref fC) = true) (bC : Binds K fdC ["some"] []) : FnOk P w K mg base CX0 3 f fd ["one", "other", "some"] (spUnlike K) := by
  refine F.ok scUnlike (fun vs H Q E h => ?_) (fun cdv A outer s' H vs Q E hr h => ?_)
  · obtain ⟨a, b, r1, r2, s, m, rfl, _⟩ := h
    rfl
  · obtain ⟨a, b, r1, r2, s, m, rfl, ha, hb, l1, l2, m7, hs, qn, qs⟩ := h
    have nd := scUnlike.nd
    have hr2 : Room 2 _ := hr.mono (by decide)
    have p7 := pow7 m7
    have cm := cols_mem (a := s) (by omega)
    refine ⟨_, (pss_cons (ps_for PassesOwn.never rfl (pi_listK (K := K) rfl (pe_call GC hr2 rfl mC kC bC .nil pass0 (pa_cons (pv 2) pa_nil))) (pg_name (i := 3) nd rfl (Or.inl rfl)) (pss_one (ps_if (pt_cmpR op_neI (pe_ix (ix_tupK (K := K) rfl) (pv 0) (pv 3) (fun _ _ => rfl)) (pe_ix (ix_tupK (K := K) rfl) (pv 1) (pv 3) (fun _ _ => rfl)) (nomark _)) (pss_one (ps_ret (pv 3))) pss_nil)))
      (pss_one (ps_ret pe_non))), ?_⟩
    refine ⟨_, rfl, s, rfl, by omega, fun cp hcp => ⟨cp, rfl, ⟨_, SqL.of upd_same⟩, ?_⟩⟩
    refine for_list (K := K) (xs := (colsN s).map vN) (fun i σ H' => (∃ v3, σ = [some (.ref a), some (.ref b), some (vN s), v3]) ∧ Same H H' ∧ H' cp = some (.lst ((colsN s).map vN)) ∧ ((colsN s).take i).find? (fun c => !decide (r1.getD c 0 = r2.getD c 0)) = none) ⟨⟨_, rfl⟩, Same.new hcp, upd_same, rfl⟩ (fun i σ H' _ h => SqL.of h.2.2.1) ?_ ?_
    · rintro i v σ H1 hv ⟨⟨v3, rfl⟩, s1, hc1, hn⟩
      rw [List.getElem?_map] at hv
      cases ec : (colsN s)[i]? with
      | none => rw [ec] at hv; cases hv
      | some c =>
        rw [ec] at hv
        obtain rfl := (Option.some.inj hv).symm
        have hcm : c < m := hasb_lt hs ((cm c).mp (List.mem_of_getElem? ec))
        refine ⟨_, rfl, _, rfl, a, _, _, _, rfl, rfl, SqT.of (s1 _ _ ha), atI_nat (getD_int (by omega)), _, rfl, _, rfl, b, _, _, _, rfl, rfl, SqT.of (s1 _ _ hb), atI_nat (getD_int (by omega)), r1.getD c 0, r2.getD c 0, rfl, rfl, _, rfl, ?_⟩
        refine ite2 (fun hb' => ?_) (fun hb' => ?_)
        · exact ⟨_, rfl, qs c H1 s1 (find_hit hn ec hb')⟩
        · exact ⟨⟨_, rfl⟩, s1, hc1, find_miss hn ec hb'⟩
    · rintro σ H1 ⟨⟨v3, rfl⟩, s1, hc1, hn⟩
      rw [List.length_map, List.take_length] at hn
      exact qn H1 s1 hn
abbrev sPlace : Stmt := top 26
theorem scPlace : FnScope ["rows", "rule", "first", "one", "second", "column"] ["rows", "rule"] (defScope sPlace) := ⟨rfl, rfl, rfl, by decide +kernel, rfl, by decide +kernel, by decide +kernel⟩
theorem ok_place {f fL fUL : Addr} {fd fdL fdUL : FuncData} (F : Fun K "first_place" "first_place" sPlace f fd) (GL : FnOk P w K mg base CX0 3 fL fdL ["one", "other", "some"] (spAlike K)) (mL : mg "alike" = some (.ref fL)) (kL : PySem.W.keepIn K (.ref fL) = true) (bL : Binds K fdL ["one", "other", "some"] []) (GUL : FnOk P w K mg base CX0 3 fUL fdUL ["one", "other", "some"] (spUnlike K)) (mUL : mg "first_unlike" = some (.ref fUL)) (kUL : PySem.W.keepIn K (.ref fUL) = true) (bUL : Binds K fdUL ["one", "other", "some"] []) (zenumerate : mg "enumerate" = none) (zrange : mg "range" = none) (zlen : mg "len" = none) : FnOk P w K mg base CX0 4 f fd ["rows", "rule"] (spFirstPlace K) := by
  refine F.ok scPlace (fun vs H Q E h => ?_) (fun cdv A outer s' H vs Q E hr h => ?_)
  · obtain ⟨tl, r, ts, T, m, x, y, st, rfl, _⟩ := h
    rfl
  · obtain ⟨tl, r, ts, T, m, x, y, st, rfl, htl, hT, m7, lT, hR, hx, hy, qn, qs⟩ := h
    have nd := scPlace.nd
    have hr3 : Room 3 _ := hr.mono (by decide)
    have p7 := pow7 m7
    have ltm : (ts.map V.ref).length = T.length := by rw [List.length_map]; exact hT.len
    have cx : ∀ c ∈ colsN x, c < m := fun c hc => hasb_lt hx ((cols_mem (a := x) (by omega) c).mp hc)
    refine ⟨_, (pss_cons (ps_for PassesOwn.never rfl (pi_enum (K := K) rfl rfl zenumerate (pa_cons (pv 0) pa_nil)) (pg_tup rfl (pgs_cons (pg_name (i := 2) nd rfl (Or.inl rfl)) (pgs_cons (pg_name (i := 3) nd rfl (Or.inl rfl)) pgs_nil))) (pss_one (ps_for PassesOwn.never rfl (pi_range2 rfl zrange (pa_cons (pe_op op_addN (pv 2) pe_int) (pa_cons (pe_callB (call_lenK (K := K) rfl) (by rfl) zlen PySem.boot_len (pa_cons (pv 0) pa_nil)) pa_nil))) (pg_name (i := 4) nd rfl (Or.inl rfl)) (pss_one (ps_if (pt_val (pe_call GL hr3 rfl mL kL bL .nil pass0 (pa_cons (pv 3) (pa_cons (pe_ix (ix_listK (K := K) rfl) (pv 0) (pv 4) (fun _ _ => rfl)) (pa_cons (pe_ix (ix_tupK (K := K) rfl) (pv 1) pe_int (fun _ _ => rfl)) pa_nil))))) (pss_cons (ps_set (i := 5) nd rfl (Or.inl rfl) (pe_call GUL hr3 rfl mUL kUL bUL .nil pass0 (pa_cons (pv 3) (pa_cons (pe_ix (ix_listK (K := K) rfl) (pv 0) (pv 4) (fun _ _ => rfl)) (pa_cons (pe_ix (ix_tupK (K := K) rfl) (pv 1) pe_int (fun _ _ => rfl)) pa_nil)))))
      (pss_one (ps_if (pt_cmpR op_notN (pv 5) pe_non (nomark _)) (pss_one (ps_ret (pe_tup (pa_cons (pv 2) (pa_cons (pv 4) (pa_cons (pv 5) pa_nil)))))) pss_nil))) pss_nil)))))
      (pss_one (ps_ret pe_non))), ?_⟩
    refine ⟨_, rfl, tl, _, rfl, htl, for_enum (xs := ts.map V.ref) (fun i σ H' => (∃ v2 v3 v4 v5, σ = [some (.ref tl), some (.ref r), v2, v3, v4, v5]) ∧ Same H H' ∧ ((List.range T.length).take i).findSome? (inP T x y) = none) ⟨⟨none, none, none, none, rfl⟩, Same.refl _, rfl⟩ (fun i σ H' _ h => h.2.1.seq htl) ?_ ?_⟩
    · rintro i v σ H0 t0 hv ⟨⟨v2, v3, v4, v5, rfl⟩, s0, u0⟩ ht0
      rw [List.getElem?_map] at hv
      cases ei : ts[i]? with
      | none => rw [ei] at hv; cases hv
      | some ta =>
        rw [ei] at hv
        obtain rfl := (Option.some.inj hv).symm
        obtain ⟨ra, eA, hra, lra⟩ := hT.get ei
        have hi : i < T.length := (List.getElem?_eq_some_iff.mp eA).1
        have s1 := s0.trans (Same.new (o := .tup [.int (i : Int), V.ref ta]) ht0)
        refine ⟨t0, _, rfl, SqT.of upd_same, rfl, _, _, rfl, _, _, rfl, rfl, ?_⟩
        generalize upd H0 t0 (.tup [.int (i : Int), V.ref ta]) = H1 at s1
        refine ⟨_, rfl, i, 1, rfl, rfl, _, rfl, tl, _, rfl, .inl (s1.seq htl), ((i + 1 : Nat) : Int), (((ts.map V.ref).length : Nat) : Int), rfl, ⟨by omega, by omega, by omega, by omega⟩, ?_⟩
        rw [to_nat, ltm]
        refine for_rangeF (a := i + 1) (n := T.length - (i + 1)) (fun j σ H' => (∃ v4 v5, σ = [some (.ref tl), some (.ref r), some (vN i), some (.ref ta), v4, v5]) ∧ Same H H' ∧ ((List.range' (i + 1) (T.length - (i + 1))).take j).findSome? (tryP T x y i) = none) ⟨⟨_, _, rfl⟩, s1, rfl⟩ ?_ ?_
        · rintro j σ H2 hj ⟨⟨w4, w5, rfl⟩, s2, u2⟩
          have hj2 : i + 1 + j < ts.length := by rw [hT.len]; omega
          have ej : ts[i + 1 + j]? = some ts[i + 1 + j] := List.getElem?_eq_getElem hj2
          obtain ⟨tb, htb⟩ : ∃ tb, tb = ts[i + 1 + j] := ⟨_, rfl⟩
          rw [← htb] at ej
          have ejv : (ts.map V.ref)[i + 1 + j]? = some (V.ref tb) := by rw [List.getElem?_map, ej]; rfl
          obtain ⟨rb, eB, hrb, lrb⟩ := hT.get ej
          have eg := range'_get (s := i + 1) hj
          have hR2 := s2 _ _ hR
          have etry : tryP T x y i (i + 1 + j) = if alikeL ra rb x = true then (unlN ra rb y).map fun c => (i, i + 1 + j, c) else none := by
            unfold tryP
            rw [rowT_of eA, rowT_of eB]
          refine ⟨_, rfl, _, rfl, _, rfl, tl, _, _, _, rfl, rfl, s2.seq htl, atI_nat ejv, _, rfl, r, _, _, _, rfl, rfl, SqT.of hR2, atI_nat (j := 1) rfl, ta, tb, ra, rb, x, rfl, SqT.of (s2 _ _ hra), SqT.of (s2 _ _ hrb), by omega, (fun c hc => ⟨by have := cx c hc; omega, by have := cx c hc; omega⟩), fun H3 s3 => ⟨_, rfl, ite2 (fun hal => ?_) (fun hal => ?_)⟩⟩
          · rw [if_pos hal] at etry
            have s23 := s2.trans s3
            have hR3 := s23 _ _ hR
            refine ⟨_, rfl, _, rfl, _, rfl, tl, _, _, _, rfl, rfl, s23.seq htl, atI_nat ejv, _, rfl, r, _, _, _, rfl, rfl, SqT.of hR3, atI_nat (j := 2) rfl, ta, tb, ra, rb, y, m, rfl, s23 _ _ hra, s23 _ _ hrb, lra, lrb, m7, hy, fun H4 s4 hn => ?_, fun c H4 s4 hc => ?_⟩
            · refine ⟨_, rfl, rfl, _, rfl, iteF ?_⟩
              rw [hn] at etry
              exact ⟨⟨_, _, rfl⟩, s23.trans s4, some_miss u2 eg etry⟩
            · refine ⟨_, rfl, rfl, _, rfl, iteT ?_⟩
              rw [hc] at etry
              have s24 := s23.trans s4
              refine ⟨_, rfl, _, rfl, _, rfl, (by show 3 ≤ sizeLine; decide), fun t ht => ?_⟩
              have hin : inP T x y i = some (i, i + 1 + j, c) := some_hit u2 eg etry
              exact qs (i, i + 1 + j, c) t _ (s24.trans (Same.new ht)) (some_hit u0 (range_get2 hi) hin) (s24.none ht) upd_same
          · rw [if_neg hal] at etry
            exact ⟨⟨_, _, rfl⟩, s2.trans s3, some_miss u2 eg etry⟩
        · rintro σ H2 ⟨⟨w4, w5, rfl⟩, s2, u2⟩
          rw [List.take_of_length_le (by rw [List.length_range']; exact Nat.le_refl _)] at u2
          exact ⟨⟨_, _, _, _, rfl⟩, s2, some_miss u0 (range_get2 hi) u2⟩
    · rintro σ H' ⟨⟨v2, v3, v4, v5, rfl⟩, s', u'⟩
      rw [ltm, List.take_of_length_le (by rw [List.length_range]; exact Nat.le_refl _)] at u'
      exact qn H' s' u'
abbrev sStep : Stmt := top 27
theorem scStep : FnScope ["rules", "rows", "number", "rule", "place"] ["rules", "rows"] (defScope sStep) := ⟨rfl, rfl, rfl, by decide +kernel, rfl, by decide +kernel, by decide +kernel⟩
theorem ok_step {f fFP : Addr} {fd fdFP : FuncData} (F : Fun K "first_step" "first_step" sStep f fd) (GFP : FnOk P w K mg base CX0 4 fFP fdFP ["rows", "rule"] (spFirstPlace K)) (mFP : mg "first_place" = some (.ref fFP)) (kFP : PySem.W.keepIn K (.ref fFP) = true) (bFP : Binds K fdFP ["rows", "rule"] []) (zenumerate : mg "enumerate" = none) : FnOk P w K mg base CX0 5 f fd ["rules", "rows"] (spFirstStep K) := by
  refine F.ok scStep (fun vs H Q E h => ?_) (fun cdv A outer s' H vs Q E hr h => ?_)
  · obtain ⟨rl, tl, rs, ts, T, m, rfl, _⟩ := h
    rfl
  · obtain ⟨rl, tl, rs, ts, T, m, rfl, hrl, hRs, lr, htl, hT, m7, lT, qn, qs⟩ := h
    have nd := scStep.nd
    have hr4 : Room 4 _ := hr.mono (by decide)
    refine ⟨_, (pss_cons (ps_for PassesOwn.never rfl (pi_enum (K := K) rfl rfl zenumerate (pa_cons (pv 0) pa_nil)) (pg_tup rfl (pgs_cons (pg_name (i := 2) nd rfl (Or.inl rfl)) (pgs_cons (pg_name (i := 3) nd rfl (Or.inl rfl)) pgs_nil))) (pss_one (ps_if (pt_cmpR op_eq (pe_ix (ix_tupK (K := K) rfl) (pv 3) pe_int (fun _ _ => rfl)) pe_str (nomark _)) (pss_cons (ps_set (i := 4) nd rfl (Or.inl rfl) (pe_call GFP hr4 rfl mFP kFP bFP .nil pass0 (pa_cons (pv 1) (pa_cons (pv 3) pa_nil))))
      (pss_one (ps_if (pt_cmpR op_notN (pv 4) pe_non (nomark _)) (pss_one (ps_ret (pe_op (op_catA (K := K) rfl) (pe_tup (pa_cons (pv 2) pa_nil)) (pv 4)))) pss_nil))) pss_nil)))
      (pss_one (ps_ret pe_non))), ?_⟩
    refine ⟨_, rfl, rl, _, rfl, hrl, for_enum (xs := rs.map fun (r : Rl) => V.ref r.r) (fun i σ H' => (∃ v2 v3 v4, σ = [some (.ref rl), some (.ref tl), v2, v3, v4]) ∧ Same H H' ∧ ((List.range (rs.map Rl.d).length).take i).findSome? (tryS T (rs.map Rl.d)) = none) ⟨⟨none, none, none, rfl⟩, Same.refl _, rfl⟩ (fun i σ H' _ h => h.2.1.seq hrl) ?_ ?_⟩
    · rintro i v σ H0 t0 hv ⟨⟨v2, v3, v4, rfl⟩, s0, u0⟩ ht0
      rw [List.getElem?_map] at hv
      cases er : rs[i]? with
      | none => rw [er] at hv; cases hv
      | some r =>
        rw [er] at hv
        obtain rfl := (Option.some.inj hv).symm
        have hi : i < (rs.map Rl.d).length := by rw [List.length_map]; exact (List.getElem?_eq_some_iff.mp er).1
        obtain ⟨r1, r2, r3⟩ := hRs r (List.mem_of_getElem? er)
        have erd : (rs.map Rl.d)[i]? = some (r.st, r.x, r.y) := by rw [List.getElem?_map, er]; rfl
        have s1 := s0.trans (Same.new (o := .tup [.int (i : Int), V.ref r.r]) ht0)
        refine ⟨t0, _, rfl, SqT.of upd_same, rfl, _, _, rfl, _, _, rfl, rfl, ?_⟩
        generalize upd H0 t0 (.tup [.int (i : Int), V.ref r.r]) = H1 at s1
        have hR1 := s1 _ _ r1
        refine ⟨_, rfl, r.r, _, _, _, rfl, rfl, SqT.of hR1, atI_nat (j := 0) rfl, rfl, _, rfl, ?_⟩
        cases est : r.st with
        | false =>
          rw [est] at erd
          refine ite2 (fun hc => absurd (of_decide_eq_true hc) (by intro z; injection z with z; revert z; decide)) (fun _ => ?_)
          exact ⟨⟨_, _, _, rfl⟩, s1, some_miss u0 (range_get2 hi) (by unfold tryS; rw [erd])⟩
        | true =>
          rw [est] at erd
          refine ite2 (fun _ => ?_) (fun hc => absurd (decide_eq_true rfl) hc)
          have et : tryS T (rs.map Rl.d) i = (firstP T r.x r.y).map fun p => (i, p) := by unfold tryS; rw [erd]
          refine ⟨_, rfl, _, rfl, tl, r.r, ts, T, m, r.x, r.y, r.st, rfl, s1.seq htl, hT.same s1, m7, lT, hR1, r2, r3, fun H2 s2 hn => ?_, fun p t H2 s2 hp ht0' ht => ?_⟩
          · refine ⟨_, rfl, rfl, _, rfl, iteF ?_⟩
            exact ⟨⟨_, _, _, rfl⟩, s1.trans s2, some_miss u0 (range_get2 hi) (by rw [et, hn]; rfl)⟩
          · refine ⟨_, rfl, rfl, _, rfl, iteT ?_⟩
            refine ⟨_, rfl, (by show 1 ≤ sizeLine; decide), fun tn htn => ?_⟩
            have sN := Same.new (o := .tup [vN i]) htn
            have s12 := (s1.trans s2).trans sN
            refine ⟨_, rfl, tn, t, [vN i], _, rfl, rfl, SqT.of upd_same, SqT.of (sN _ _ ht), (by show 4 ≤ sizeLine; decide), (fun z => by cases z), (fun _ z => by cases z), fun _ _ tp htp => ?_⟩
            exact qs (i, p) tp _ (s12.trans (Same.new htp)) (some_hit u0 (range_get2 hi) (by rw [et, hp]; rfl)) (s12.none htp) upd_same
    · rintro σ H' ⟨⟨v2, v3, v4, rfl⟩, s', u'⟩
      rw [List.length_map, ← List.length_map (f := Rl.d), List.take_of_length_le (by rw [List.length_range]; exact Nat.le_refl _)] at u'
      exact qn H' s' u'
end
end Own

namespace Own
open PySem L2
section
variable {P : Program} {w : World} {K : PySem.W.Frag} {mg : Str → Option Value} {base : Heap}
seal PySem.wpAny
abbrev sWithN : Stmt := top 28
theorem scWithN : FnScope ["row", "column", "number"] ["row", "column", "number"] (defScope sWithN) := ⟨rfl, rfl, rfl, by decide +kernel, rfl, by decide +kernel, by decide +kernel⟩
theorem ok_withn {f : Addr} {fd : FuncData} (F : Fun K "with_number" "with_number" sWithN f fd) : FnOk P w K mg base CX0 1 f fd ["row", "column", "number"] (spWithN K) := by
  refine F.ok scWithN (fun vs H Q E h => ?_) (fun cdv A outer s' H vs Q E hr h => ?_)
  · obtain ⟨a, r, c, v, rfl, _⟩ := h
    rfl
  · obtain ⟨a, r, c, v, rfl, ha, hc, lr, q⟩ := h
    refine ⟨_, (pss_one (ps_ret (pe_op (op_catA (K := K) rfl) (pe_op (op_catA (K := K) rfl) (pe_slice sl_tup (pv 0) po_none (po_some (pv 1))) (pe_tup (pa_cons (pv 2) pa_nil))) (pe_slice sl_tup (pv 0) (po_some (pe_op op_addN (pv 1) pe_int)) po_none)))), ?_⟩
    have lrm : (r.map V.int).length = r.length := List.length_map ..
    refine ⟨_, rfl, _, rfl, (c : Int), rfl, a, _, rfl, SqT.of ha, ?_, fun p1 hp1 => ?_⟩
    · rintro ⟨_, h2⟩
      rw [HT.sIx_nat, lrm] at h2
      omega
    rw [cut_take]
    have s1 := Same.new (o := .tup ((r.map V.int).take c)) hp1
    have h1 : (upd H p1 (.tup ((r.map V.int).take c))) p1 = some (.tup ((r.map V.int).take c)) := upd_same
    generalize upd H p1 (.tup ((r.map V.int).take c)) = H1 at s1 h1
    refine ⟨_, rfl, (by show 1 ≤ sizeLine; decide), fun p2 hp2 => ?_⟩
    have s2 := Same.new (o := .tup [V.int v]) hp2
    have h2 : (upd H1 p2 (.tup [V.int v])) p2 = some (.tup [V.int v]) := upd_same
    have h12 := s2 _ _ h1
    generalize upd H1 p2 (.tup [V.int v]) = H2 at s2 h2 h12
    have ltk : ((r.map V.int).take c).length = c := by rw [List.length_take, lrm]; omega
    have s02 := s1.trans s2
    have eset : (r.map V.int).take c ++ [V.int v] ++ (r.map V.int).drop (c + 1) = (r.set c v).map V.int := by
      rw [List.map_set, List.set_eq_take_append_cons_drop, if_pos (by rw [lrm]; exact hc), List.append_assoc]; rfl
    refine ⟨p1, p2, _, _, rfl, rfl, SqT.of h12, SqT.of h2, small7 (by rw [ltk]; show c + 1 ≤ 20; omega), fun z => ?_, fun _ z => (by cases z), fun _ _ p3 hp3 => ?_⟩
    · have h3 : H2 p2 = some (.tup ((r.map V.int).take c ++ [V.int v])) := by rw [z]; exact h2
      refine ⟨_, rfl, _, rfl, c, 1, rfl, rfl, ((c + 1 : Nat) : Int), rfl, a, _, rfl, SqT.of (s02 _ _ ha), ?_, fun p4 hp4 => ?_⟩
      · rintro ⟨h2, _⟩
        rw [HT.sIx_nat, lrm] at h2
        omega
      rw [cut_drop]
      have s4 := Same.new (o := .tup ((r.map V.int).drop (c + 1))) hp4
      refine ⟨p2, p4, _, _, rfl, rfl, SqT.of (s4 _ _ h3), SqT.of upd_same, small7 (by rw [List.length_append, ltk, List.length_drop, lrm]; show c + 1 + _ ≤ 20; omega), (fun z => absurd z (by simp)), fun _ z => ?_, fun _ _ p5 hp5 => ?_⟩
      · refine q p2 _ (s02.trans s4) ?_
        rw [s4 _ _ h3, ← eset, z, List.append_nil]
      · exact q p5 _ ((s02.trans s4).trans (Same.new hp5)) (by rw [upd_same, eset])
    · have s03 := s02.trans (Same.new (o := .tup ((r.map V.int).take c ++ [V.int v])) hp3)
      have h3 : (upd H2 p3 (.tup ((r.map V.int).take c ++ [V.int v]))) p3 = some (.tup ((r.map V.int).take c ++ [V.int v])) := upd_same
      generalize upd H2 p3 (.tup ((r.map V.int).take c ++ [V.int v])) = H3 at s03 h3
      refine ⟨_, rfl, _, rfl, c, 1, rfl, rfl, ((c + 1 : Nat) : Int), rfl, a, _, rfl, SqT.of (s03 _ _ ha), ?_, fun p4 hp4 => ?_⟩
      · rintro ⟨h2, _⟩
        rw [HT.sIx_nat, lrm] at h2
        omega
      rw [cut_drop]
      have s4 := Same.new (o := .tup ((r.map V.int).drop (c + 1))) hp4
      refine ⟨p3, p4, _, _, rfl, rfl, SqT.of (s4 _ _ h3), SqT.of upd_same, small7 (by rw [List.length_append, ltk, List.length_drop, lrm]; show c + 1 + _ ≤ 20; omega), (fun z => absurd z (by simp)), fun _ z => ?_, fun _ _ p5 hp5 => ?_⟩
      · refine q p3 _ (s03.trans s4) ?_
        rw [s4 _ _ h3, ← eset, z, List.append_nil]
      · exact q p5 _ ((s03.trans s4).trans (Same.new hp5)) (by rw [upd_same, eset])
abbrev sMade : Stmt := top 29
theorem scMade : FnScope ["rows", "first", "second", "column", "lesser", "greater"] ["rows", "first", "second", "column"] (defScope sMade) := ⟨rfl, rfl, rfl, by decide +kernel, rfl, by decide +kernel, by decide +kernel⟩
theorem ok_made {f fWN : Addr} {fd fdWN : FuncData} (F : Fun K "made_alike" "made_alike" sMade f fd) (GWN : FnOk P w K mg base CX0 1 fWN fdWN ["row", "column", "number"] (spWithN K)) (mWN : mg "with_number" = some (.ref fWN)) (kWN : PySem.W.keepIn K (.ref fWN) = true) (bWN : Binds K fdWN ["row", "column", "number"] []) (zmin : mg "min" = none) (zmax : mg "max" = none) : FnOk P w K mg base CX0 2 f fd ["rows", "first", "second", "column"] (spMade K) := by
  refine F.ok scMade (fun vs H Q E h => ?_) (fun cdv A outer s' H vs Q E hr h => ?_)
  · obtain ⟨tl, ts, T, m, i, j, c, ri, rj, rfl, _⟩ := h
    rfl
  · obtain ⟨tl, ts, T, m, i, j, c, ri, rj, rfl, htl, hT, m7, lT, eri, erj, hc, q⟩ := h
    have nd := scMade.nd
    have hr1 : Room 1 _ := hr.mono (by decide)
    have hi : i < ts.length := by rw [hT.len]; exact (List.getElem?_eq_some_iff.mp eri).1
    have hj : j < ts.length := by rw [hT.len]; exact (List.getElem?_eq_some_iff.mp erj).1
    obtain ⟨ti, eti⟩ : ∃ t, ts[i]? = some t := ⟨_, List.getElem?_eq_getElem hi⟩
    obtain ⟨tj, etj⟩ : ∃ t, ts[j]? = some t := ⟨_, List.getElem?_eq_getElem hj⟩
    have eiv : (ts.map V.ref)[i]? = some (V.ref ti) := by rw [List.getElem?_map, eti]; rfl
    have ejv : (ts.map V.ref)[j]? = some (V.ref tj) := by rw [List.getElem?_map, etj]; rfl
    have hi' := hT.at_ i ti ri eti eri
    have hj' := hT.at_ j tj rj etj erj
    have hi := hi'
    have hj := hj'
    have li := hT.rl ri (List.mem_of_getElem? eri)
    have lj := hT.rl rj (List.mem_of_getElem? erj)
    have ltm : (ts.map V.ref).length = T.length := by rw [List.length_map]; exact hT.len
    refine ⟨_, (pss_cons (ps_set (i := 4) nd rfl (Or.inr rfl) (pe_callB (call_minI rfl) (by rfl) zmin PyProof.Rows.boot_min (pa_cons (pe_ix (ix_tupK (K := K) rfl) (pe_ix (ix_listK (K := K) rfl) (pv 0) (pv 1) (fun _ _ => rfl)) (pv 3) (fun _ _ => rfl)) (pa_cons (pe_ix (ix_tupK (K := K) rfl) (pe_ix (ix_listK (K := K) rfl) (pv 0) (pv 2) (fun _ _ => rfl)) (pv 3) (fun _ _ => rfl)) pa_nil))))
      (pss_cons (ps_set (i := 5) nd rfl (Or.inr rfl) (pe_callB (call_maxN rfl) (by rfl) zmax PyProof.Rows.boot_max (pa_cons (pe_ix (ix_tupK (K := K) rfl) (pe_ix (ix_listK (K := K) rfl) (pv 0) (pv 1) (fun _ _ => rfl)) (pv 3) (fun _ _ => rfl)) (pa_cons (pe_ix (ix_tupK (K := K) rfl) (pe_ix (ix_listK (K := K) rfl) (pv 0) (pv 2) (fun _ _ => rfl)) (pv 3) (fun _ _ => rfl)) pa_nil))))
      (pss_one (ps_ret (pe_comp (xs := ["row"]) (cs ["rows", "first", "second", "column", "lesser", "greater"] (defScope sMade) rfl rfl (by decide +kernel)) rfl (pi_listK (K := K) rfl (pv 0)) (fun _ _ _ => pg_name (i := 0) (show (["row", "rows", "first", "second", "column", "lesser", "greater"] : List Str).Nodup by decide +kernel) rfl (Or.inl rfl)) (fun _ _ _ => pts_nil) (fun _ _ _ => (pe_ifExp (pt_cmpR op_eqI (pe_ix (ix_tupK (K := K) rfl) (pv 0) (pv 4) (fun _ _ => rfl)) (pv 6) (nomark _)) (pe_call GWN hr1 rfl mWN kWN bWN .nil pass0 (pa_cons (pv 0) (pa_cons (pv 4) (pa_cons (pv 5) pa_nil)))) (pv 0)))))))), ?_⟩
    refine ⟨_, rfl, _, rfl, tl, _, _, _, rfl, rfl, htl, atI_nat eiv, _, rfl, ti, _, _, _, rfl, rfl, SqT.of hi, atI_nat (getD_int (by omega)), _, rfl, _, rfl, tl, _, _, _, rfl, rfl, htl, atI_nat ejv, _, rfl, tj, _, _, _, rfl, rfl, SqT.of hj, atI_nat (getD_int (by omega)), ri.getD c 0, rj.getD c 0, rfl, ?_⟩
    refine ⟨_, rfl, _, rfl, tl, _, _, _, rfl, rfl, htl, atI_nat eiv, _, rfl, ti, _, _, _, rfl, rfl, SqT.of hi, atI_nat (getD_int (by omega)), _, rfl, _, rfl, tl, _, _, _, rfl, rfl, htl, atI_nat ejv, _, rfl, tj, _, _, _, rfl, rfl, SqT.of hj, atI_nat (getD_int (by omega)), ri.getD c 0, rj.getD c 0, rfl, ?_⟩
    refine ⟨_, rfl, tl, rfl, ⟨_, htl⟩, lc_list (K := K) (xs := ts.map V.ref) (fun k acc H' => ∃ ts' : List Addr, acc = ts'.map V.ref ∧ Same H H' ∧ TB H' m ts' ((T.take k).map (evenRow c (ri.getD c 0) (rj.getD c 0)))) (by rw [ltm]; omega) ⟨[], rfl, Same.refl _, TB.nil _ _⟩ (fun k acc H' hk h => ?_) (fun k v acc H' hv h => ?_) (fun acc H' h => ?_)⟩
    · obtain ⟨ts', rfl, s', h'⟩ := h
      refine ⟨s'.seq htl, ?_⟩
      rw [List.length_map, h'.len, List.length_map]
      exact List.length_take_le _ _
    · obtain ⟨ts', rfl, s', h'⟩ := h
      rw [List.getElem?_map] at hv
      cases et : ts[k]? with
      | none => rw [et] at hv; cases hv
      | some t =>
        rw [et] at hv
        obtain rfl := (Option.some.inj hv).symm
        obtain ⟨r, er, hrt, lr⟩ := hT.get et
        have etk : (T.take (k + 1)).map (evenRow c (ri.getD c 0) (rj.getD c 0)) = (T.take k).map (evenRow c (ri.getD c 0) (rj.getD c 0)) ++ [(evenRow c (ri.getD c 0) (rj.getD c 0)) r] := by rw [List.take_succ, er, List.map_append]; rfl
        refine ⟨rfl, _, rfl, _, rfl, t, _, _, _, rfl, rfl, SqT.of (s' _ _ hrt), atI_nat (getD_int (by omega)), _, rfl, r.getD c 0, max (ri.getD c 0) (rj.getD c 0), rfl, rfl, _, rfl, ite2 (fun hb => ?_) (fun hb => ?_)⟩
        · have ev : (evenRow c (ri.getD c 0) (rj.getD c 0)) r = r.set c (min (ri.getD c 0) (rj.getD c 0)) := by unfold evenRow; rw [if_pos (of_decide_eq_true hb)]
          refine ⟨_, rfl, _, rfl, _, rfl, t, r, c, min (ri.getD c 0) (rj.getD c 0), rfl, s' _ _ hrt, by omega, by omega, fun t' H2 s2 ht' => ?_⟩
          refine ⟨ts' ++ [t'], by rw [List.map_append]; rfl, s'.trans s2, ?_⟩
          rw [etk]
          exact (h'.same s2).snoc (by rw [ev]; exact ht') (by rw [ev, List.length_set]; exact lr)
        · have ev : (evenRow c (ri.getD c 0) (rj.getD c 0)) r = r := by unfold evenRow; rw [if_neg fun z => hb (decide_eq_true z)]
          refine ⟨_, rfl, ts' ++ [t], by rw [List.map_append]; rfl, s', ?_⟩
          rw [etk]
          exact h'.snoc (by rw [ev]; exact s' _ _ hrt) (by rw [ev]; exact lr)
    · obtain ⟨ts', rfl, s', h'⟩ := h
      rw [ltm, List.take_length] at h'
      intro np hnp
      exact q np ts' _ (s'.trans (Same.new hnp)) (s'.none hnp) upd_same (h'.same (Same.new hnp))
abbrev sCheck : Stmt := top 23
theorem scCheck : FnScope ["many", "parts", "together", "part"] ["many", "parts"] (defScope sCheck) := ⟨rfl, rfl, rfl, by decide +kernel, rfl, by decide +kernel, by decide +kernel⟩
theorem ok_check {f fIW fAL : Addr} {fd fdIW fdAL : FuncData} {tkMP : PySem.Tok} (F : Fun K "check_parts" "check_parts" sCheck f fd) (GIW : FnOk P w K mg base CX0 1 fIW fdIW ["one", "other"] spWithin) (mIW : mg "is_within" = some (.ref fIW)) (kIW : PySem.W.keepIn K (.ref fIW) = true) (bIW : Binds K fdIW ["one", "other"] []) (GAL : FnOk P w K mg base CX0 1 fAL fdAL ["many"] spAllOf) (mAL : mg "all_of" = some (.ref fAL)) (kAL : PySem.W.keepIn K (.ref fAL) = true) (bAL : Binds K fdAL ["many"] []) (mMP : mg "MOST_PARTS" = some (.int 10 tkMP)) (zlen : mg "len" = none) : FnOk P w K mg base CX0 2 f fd ["many", "parts"] (spCheck K) := by
  refine F.ok scCheck (fun vs H Q E h => ?_) (fun cdv A outer s' H vs Q E hr h => ?_)
  · obtain ⟨m, pl, ps, rfl, _⟩ := h
    rfl
  · obtain ⟨m, pl, ps, rfl, m7, hpl, lp, hf, q⟩ := h
    have nd := scCheck.nd
    have hr1 : Room 1 _ := hr.mono (by decide)
    have lpm : (ps.map vN).length = ps.length := List.length_map ..
    refine ⟨_, (pss_cons (ps_if (pt_cmpR op_gtN (pe_callB (call_lenK (K := K) rfl) (by rfl) zlen PySem.boot_len (pa_cons (pv 1) pa_nil)) (pe_glob (v := vN 10) (by rfl) mMP ⟨_, rfl⟩) (nomark _)) (pss_one ps_never) pss_nil)
      (pss_cons (ps_set (i := 2) nd rfl (Or.inl rfl) pe_int)
      (pss_cons (ps_for PassesOwn.never rfl (pi_listK (K := K) rfl (pv 1)) (pg_name (i := 3) nd rfl (Or.inl rfl)) (pss_one (ps_set (i := 2) nd rfl (Or.inl rfl) (pe_op op_orN (pv 2) (pv 3)))))
      (pss_one (ps_if (pt_not (pt_val (pe_call GIW hr1 rfl mIW kIW bIW .nil pass0 (pa_cons (pe_call GAL hr1 rfl mAL kAL bAL .nil pass0 (pa_cons (pv 0) pa_nil)) (pa_cons (pv 2) pa_nil))))) (pss_one ps_never) pss_nil))))), ?_⟩
    refine ⟨_, rfl, pl, _, rfl, .inl hpl, (ps.map vN).length, 10, rfl, rfl, _, rfl, ?_⟩
    rw [lpm, decide_eq_false (show ¬ 10 < ps.length by omega)]
    refine iteF ?_
    refine ⟨_, rfl, pl, rfl, ⟨_, hpl⟩, for_list (K := K) (xs := ps.map vN) (fun i σ H' => (∃ v3, σ = [some (vN m), some (.ref pl), some (vN ((ps.take i).foldl (· ||| ·) 0)), v3]) ∧ H' = H) ⟨⟨_, rfl⟩, rfl⟩ (fun i σ H' _ h => by rw [h.2]; exact hpl) ?_ ?_⟩
    · rintro i v σ H1 hv ⟨⟨v3, rfl⟩, rfl⟩
      rw [List.getElem?_map] at hv
      cases ep : ps[i]? with
      | none => rw [ep] at hv; cases hv
      | some p =>
        rw [ep] at hv
        obtain rfl := (Option.some.inj hv).symm
        refine ⟨_, rfl, _, rfl, (ps.take i).foldl (· ||| ·) 0, p, rfl, rfl, ?_⟩
        exact ⟨⟨some (vN p), by rw [List.take_succ, ep, List.foldl_append]; rfl⟩, rfl⟩
    · rintro σ H1 ⟨⟨v3, rfl⟩, rfl⟩
      rw [lpm, List.take_length, hf]
      refine ⟨_, rfl, m, rfl, by omega, _, rfl, 2 ^ m - 1, 2 ^ m - 1, rfl, _, rfl, ?_⟩
      rw [Nat.and_self, decide_eq_true rfl]
      refine iteF ?_
      exact q H1 (Same.refl _)
abbrev sBegunT : Stmt := top 24
theorem scBegunT : FnScope ["many", "parts"] ["many", "parts"] (defScope sBegunT) := ⟨rfl, rfl, rfl, by decide +kernel, rfl, by decide +kernel, by decide +kernel⟩
theorem ok_begunt {f fM fN : Addr} {fd fdM fdN : FuncData} (F : Fun K "begun_table" "begun_table" sBegunT f fd) (GM : FnOk P w K mg base CX0 2 fM fdM ["one", "other", "some"] (spMixed K)) (mM : mg "mixed" = some (.ref fM)) (kM : PySem.W.keepIn K (.ref fM) = true) (bM : Binds K fdM ["one", "other", "some"] []) (GN : FnOk P w K mg base CX0 1 fN fdN ["many"] spNoughts) (mN : mg "noughts" = some (.ref fN)) (kN : PySem.W.keepIn K (.ref fN) = true) (bN : Binds K fdN ["many"] []) (zenumerate : mg "enumerate" = none) : FnOk P w K mg base CX0 3 f fd ["many", "parts"] (spBegunT K) := by
  refine F.ok scBegunT (fun vs H Q E h => ?_) (fun cdv A outer s' H vs Q E hr h => ?_)
  · obtain ⟨m, pl, ps, rfl, _⟩ := h
    rfl
  · obtain ⟨m, pl, ps, rfl, m1, m7, hpl, lp, q⟩ := h
    have hr1 : Room 1 _ := hr.mono (by decide)
    have hr2 : Room 2 _ := hr.mono (by decide)
    have lpm : (ps.map vN).length = ps.length := List.length_map ..
    refine ⟨_, (pss_one (ps_ret (pe_comp (xs := ["number", "part"]) (cs ["many", "parts"] (defScope sBegunT) rfl rfl (by decide +kernel)) rfl (pi_enumS (K := K) rfl rfl zenumerate (pa_cons (pv 1) pa_nil) (pk_cons pe_int pk_nil)) (fun _ _ _ => pg_tupK (K := K) (n := 2) rfl rfl (pgs_cons (pg_name (i := 0) (show (["number", "part", "many", "parts"] : List Str).Nodup by decide +kernel) rfl (Or.inl rfl)) (pgs_cons (pg_name (i := 1) (show (["number", "part", "many", "parts"] : List Str).Nodup by decide +kernel) rfl (Or.inl rfl)) pgs_nil)) rfl rfl) (fun _ _ _ => pts_nil) (fun _ _ _ => (pe_call GM hr2 rfl mM kM bM .nil pass0 (pa_cons (pe_call GN hr1 rfl mN kN bN .nil pass0 (pa_cons (pv 2) pa_nil)) (pa_cons (pe_op op_repT (pe_tup (pa_cons (pv 0) pa_nil)) (pv 2)) (pa_cons (pv 1) pa_nil)))))))), ?_⟩
    refine ⟨_, rfl, pl, _, 1, rfl, rfl, by omega, hpl, lc_enumS (K := K) (xs := ps.map vN) (n := 2) (k := 1) (fun i acc H' => ∃ ts : List Addr, acc = ts.map V.ref ∧ Same H H' ∧ TB H' m ts (begK m ps i)) (by omega) ⟨[], rfl, Same.refl _, TB.nil _ _⟩ (fun i acc H' hi h => ?_) (fun i v acc H' t hv h ht => ?_) (fun acc H' h => ?_)⟩
    · obtain ⟨ts, rfl, s1, hT⟩ := h
      refine ⟨s1.seq hpl, ?_⟩
      rw [List.length_map, hT.len]
      unfold begK
      rw [List.length_map, List.length_range]
      exact Nat.le_refl _
    · obtain ⟨ts, rfl, s1, hT⟩ := h
      rw [List.getElem?_map] at hv
      cases ep : ps[i]? with
      | none => rw [ep] at hv; cases hv
      | some p =>
        rw [ep] at hv
        obtain rfl := (Option.some.inj hv).symm
        have epd : ps.getD i 0 = p := by rw [List.getD_eq_getElem?_getD, ep]; rfl
        have bk : begK m ps (i + 1) = begK m ps i ++ [begRow m i p] := by
          unfold begK
          rw [List.range_succ, List.map_append, ← epd]; rfl
        have sT := Same.new (o := .tup [vN (i + 1), vN p]) ht
        refine ⟨t, _, rfl, SqT.of upd_same, rfl, _, _, rfl, _, _, rfl, rfl, rfl, ?_⟩
        generalize upd H' t (.tup [vN (i + 1), vN p]) = H2 at sT
        refine ⟨_, rfl, m, rfl, m1, by omega, fun t1 H3 s3 ht1 ht1' => ?_⟩
        refine ⟨_, rfl, (by show 1 ≤ sizeLine; decide), fun t2 ht2 => ?_⟩
        have s4 := Same.new (o := .tup [vN (i + 1)]) ht2
        have h24 : (upd H3 t2 (.tup [vN (i + 1)])) t2 = some (.tup [vN (i + 1)]) := upd_same
        have h14 := s4 _ _ ht1'
        have s24 := (sT.trans s3).trans s4
        generalize upd H3 t2 (.tup [vN (i + 1)]) = H4 at s4 h24 h14 s24
        refine ⟨_, rfl, t2, vN (i + 1), m, rfl, rfl, h24, m1, by omega, fun e => ?_, fun e t3 ht3 => ?_⟩
        · have h24' : H4 t2 = some (.tup ((List.replicate m ((i + 1 : Nat) : Int)).map V.int)) := by rw [e]; exact h24
          refine ⟨_, rfl, t1, t2, List.replicate m 0, List.replicate m ((i + 1 : Nat) : Int), p, rfl, SqT.of h14, SqT.of h24', by rw [List.length_replicate, List.length_replicate], by rw [List.length_replicate]; omega, fun tr H5 s5 htr0 htr => ?_⟩
          exact ⟨ts ++ [tr], by rw [List.map_append]; rfl, s1.trans (s24.trans s5), by rw [bk]; exact (hT.same (s24.trans s5)).snoc htr (begRow_len ..)⟩
        · have s5' := Same.new (o := .tup (List.replicate m (vN (i + 1)))) ht3
          have h35 : (upd H4 t3 (.tup (List.replicate m (vN (i + 1))))) t3 = some (.tup ((List.replicate m ((i + 1 : Nat) : Int)).map V.int)) := by rw [upd_same, List.map_replicate]; rfl
          have s25 := s24.trans s5'
          have h15 := s5' _ _ h14
          generalize upd H4 t3 (.tup (List.replicate m (vN (i + 1)))) = H5 at h35 s25 h15
          refine ⟨_, rfl, t1, t3, List.replicate m 0, List.replicate m ((i + 1 : Nat) : Int), p, rfl, SqT.of h15, SqT.of h35, by rw [List.length_replicate, List.length_replicate], by rw [List.length_replicate]; omega, fun tr H6 s6 htr0 htr => ?_⟩
          exact ⟨ts ++ [tr], by rw [List.map_append]; rfl, s1.trans (s25.trans s6), by rw [bk]; exact (hT.same (s25.trans s6)).snoc htr (begRow_len ..)⟩
    · obtain ⟨ts, rfl, s1, hT⟩ := h
      rw [lpm] at hT
      intro tl htl
      exact q tl ts _ (s1.trans (Same.new htl)) (s1.none htl) upd_same (hT.same (Same.new htl))
end
end Own

namespace Own
open PySem L2
section
variable {P : Program} {w : World} {K : PySem.W.Frag} {mg : Str → Option Value} {base : Heap}
seal PySem.wpAny
abbrev sFilled : Stmt := top 30
theorem scFilled : FnScope ["many", "rules", "parts", "rows", "steps", "step"] ["many", "rules", "parts"] (defScope sFilled) := ⟨rfl, rfl, rfl, by decide +kernel, rfl, by decide +kernel, by decide +kernel⟩
theorem ok_filled {f fCK fBT fFS fMD : Addr} {fd fdCK fdBT fdFS fdMD : FuncData} (F : Fun K "filled" "filled" sFilled f fd) (GCK : FnOk P w K mg base CX0 2 fCK fdCK ["many", "parts"] (spCheck K)) (mCK : mg "check_parts" = some (.ref fCK)) (kCK : PySem.W.keepIn K (.ref fCK) = true) (bCK : Binds K fdCK ["many", "parts"] []) (GBT : FnOk P w K mg base CX0 3 fBT fdBT ["many", "parts"] (spBegunT K)) (mBT : mg "begun_table" = some (.ref fBT)) (kBT : PySem.W.keepIn K (.ref fBT) = true) (bBT : Binds K fdBT ["many", "parts"] []) (GFS : FnOk P w K mg base CX0 5 fFS fdFS ["rules", "rows"] (spFirstStep K)) (mFS : mg "first_step" = some (.ref fFS)) (kFS : PySem.W.keepIn K (.ref fFS) = true) (bFS : Binds K fdFS ["rules", "rows"] []) (GMD : FnOk P w K mg base CX0 2 fMD fdMD ["rows", "first", "second", "column"] (spMade K)) (mMD : mg "made_alike" = some (.ref fMD)) (kMD : PySem.W.keepIn K (.ref fMD) = true) (bMD : Binds K fdMD ["rows", "first", "second", "column"] []) : FnOk P w K mg base CX0 6 f fd ["many", "rules", "parts"] (spFilled K) := by
  refine F.ok scFilled (fun vs H Q E h => ?_) (fun cdv A outer s' H vs Q E hr h => ?_)
  · obtain ⟨m, rl, pl, rs, ps, rfl, _⟩ := h
    rfl
  · obtain ⟨m, rl, pl, rs, ps, rfl, m1, m7, hrl, hRs, lr, hpl, lp, hf, q⟩ := h
    have nd := scFilled.nd
    have hr2 : Room 2 _ := hr.mono (by decide)
    have hr3 : Room 3 _ := hr.mono (by decide)
    have hr5 : Room 5 _ := hr.mono (by decide)
    have hrules : Rules m (rs.map Rl.d) := fun r hr' => by
      obtain ⟨r', h1, rfl⟩ := List.mem_map.mp hr'
      exact (hRs r' h1).2
    refine ⟨_, (pss_cons (ps_expr (pe_call GCK hr2 rfl mCK kCK bCK .nil pass0 (pa_cons (pv 0) (pa_cons (pv 2) pa_nil)))) (pss_cons (ps_set (i := 3) nd rfl (Or.inl rfl) (pe_call GBT hr3 rfl mBT kBT bBT .nil pass0 (pa_cons (pv 0) (pa_cons (pv 2) pa_nil)))) (pss_cons (ps_set (i := 4) nd rfl (Or.inl rfl) (pe_lst pa_nil)) (pss_cut (fun σ H' => ∃ n, FInv H m rl pl rs ps n σ H') (ps_set (i := 5) nd rfl (Or.inl rfl) (pe_call GFS hr5 rfl mFS kFS bFS .nil pass0 (pa_cons (pv 1) (pa_cons (pv 3) pa_nil)))) (pss_cons (ps_while PassesOwn.never (pt_cmpR op_notN (pv 5) pe_non (nomark _)) (pss_cons (ps_expr (pe_bm PySem.F.plainAttrs_list PySem.F.slot_list_append PySem.F.type_list_append mt_append (pv 4) (pa_cons (pv 5) pa_nil)))
      (pss_cons (ps_set (i := 3) nd rfl (Or.inl rfl) (pe_call GMD hr2 rfl mMD kMD bMD .nil pass0 (pa_cons (pv 3) (pa_cons (pe_ix (ix_tupK (K := K) rfl) (pv 5) pe_int (fun _ _ => rfl)) (pa_cons (pe_ix (ix_tupK (K := K) rfl) (pv 5) pe_int (fun _ _ => rfl)) (pa_cons (pe_ix (ix_tupK (K := K) rfl) (pv 5) pe_int (fun _ _ => rfl)) pa_nil))))))
      (pss_one (ps_set (i := 5) nd rfl (Or.inl rfl) (pe_call GFS hr5 rfl mFS kFS bFS .nil pass0 (pa_cons (pv 1) (pa_cons (pv 3) pa_nil))))))))
      (pss_one (ps_ret (pe_tup (pa_cons (pv 3) (pa_cons (pv 4) pa_nil)))))))))), ?_⟩
    refine ⟨_, rfl, _, rfl, m, pl, ps, rfl, m7, hpl, lp, hf, fun H1 s1 => ?_⟩
    refine ⟨_, rfl, _, rfl, m, pl, ps, rfl, m1, m7, s1.seq hpl, lp, fun tl ts H2 s2 htl0 htl hT => ?_⟩
    refine ⟨Nat.zero_le _, fun sl hsl => ?_⟩
    have s3 := Same.new (o := .lst []) hsl
    have hsl3 : (upd H2 sl (.lst [])) sl = some (.lst []) := upd_same
    have htl3 := s3 _ _ htl
    have hT3 := hT.same s3
    have ntl : tl ≠ sl := ne_of_none htl hsl
    have s03 := (s1.trans s2).trans s3
    have hsl0 := (s1.trans s2).none hsl
    have htlH := s1.none htl0
    generalize upd H2 sl (.lst []) = H3 at s3 hsl3 htl3 hT3 s03
    have A0 := begT_at (m := m) (rs := rs.map Rl.d) lp m7
    have lT : (begT m ps).length ≤ 20 := by unfold begT begK; rw [List.length_map, List.length_range]; omega
    refine ⟨⟨_, rfl, _, rfl, rl, tl, rs, ts, begT m ps, m, rfl, s03.seq hrl, hRs.same s03, lr, SqL.of htl3, hT3, m7, lT, fun H4 s4 hn => ?_, fun p t H4 s4 hp ht0 ht => ?_⟩, ?_⟩
    · exact ⟨_, begT m ps, ts, tl, sl, [], .non, rfl, A0, s03.trans s4, htlH, s4 _ _ htl3, hT3.same s4, hsl0, ntl, s4 _ _ hsl3, (fun w h => absurd h List.not_mem_nil), .inl ⟨hn, rfl⟩⟩
    · exact ⟨_, begT m ps, ts, tl, sl, [], .ref t, rfl, A0, s03.trans s4, htlH, s4 _ _ htl3, hT3.same s4, hsl0, ntl, s4 _ _ hsl3, (fun w h => absurd h List.not_mem_nil), .inr ⟨p, t, hp, rfl, ht⟩⟩
    clear hsl3 htl3 hT3 s03 hsl0 htlH ntl s3
    rintro σ H5 ⟨n0, hinv⟩
    refine ⟨FInv H m rl pl rs ps, ⟨n0, hinv⟩, ?_⟩
    clear hinv
    rintro n _ H4 ⟨T, ts, tl, sl, sw, v, rfl, A, s4, htl0, htl, hT, hsl0, ntl, hsl, hst, hv⟩
    refine ⟨_, rfl, rfl, _, rfl, ?_⟩
    have lsw := A.len
    rw [List.length_map] at lsw
    rcases hv with ⟨hn, rfl⟩ | ⟨p, t, hp, rfl, ht⟩
    · refine iteF ?_
      obtain ⟨d1, d2⟩ := A.done hn
      refine ⟨_, rfl, _, rfl, (by show 2 ≤ sizeLine; decide), fun tt htt => ?_⟩
      have s5 := Same.new (o := .tup [V.ref tl, V.ref sl]) htt
      exact q tt tl sl ts sw _ (s4.trans s5) upd_same htl0 (s5 _ _ htl) (by rw [← d1]; exact hT.same s5) hsl0 (s5 _ _ hsl) (hst.same s5) d2 (by omega) ntl
    · refine iteT ?_
      refine ⟨_, fun _ _ h => h, ?_⟩
      obtain ⟨⟨ri, rj, eri, erj, hc, estep⟩, n', rfl, A'⟩ := A.next m7 hrules hp
      refine ⟨_, rfl, .inl ⟨rfl, _, SqL.of hsl⟩, _, rfl, sl, _, _, rfl, rfl, hsl, (by rw [List.length_map]; exact small1000 (by omega)), ?_⟩
      have nt : t ≠ sl := ne_of ht hsl (by intro z; cases z)
      have s5 : Same H (upd H4 sl (.lst ((sw.map fun w => V.ref w.1) ++ [V.ref t]))) := s4.own hsl0
      have ht5 : (upd H4 sl (.lst ((sw.map fun w => V.ref w.1) ++ [V.ref t]))) t = some (.tup [vN p.1, vN p.2.1, vN p.2.2.1, vN p.2.2.2]) := by rw [upd_ne nt]; exact ht
      have hs5 : (upd H4 sl (.lst ((sw.map fun w => V.ref w.1) ++ [V.ref t]))) sl = some (.lst ((sw ++ [(t, p)]).map fun w => V.ref w.1)) := by rw [upd_same, List.map_append]; rfl
      have htl5 : (upd H4 sl (.lst ((sw.map fun w => V.ref w.1) ++ [V.ref t]))) tl = some (.lst (ts.map V.ref)) := by rw [upd_ne ntl]; exact htl
      have hT5 : TB (upd H4 sl (.lst ((sw.map fun w => V.ref w.1) ++ [V.ref t]))) m ts T := hT.putL hsl
      have st5 : Steps4 (upd H4 sl (.lst ((sw.map fun w => V.ref w.1) ++ [V.ref t]))) (sw ++ [(t, p)]) := (hst.put hsl).snoc (w := (t, p)) ht5
      generalize upd H4 sl (.lst ((sw.map fun w => V.ref w.1) ++ [V.ref t])) = H5 at s5 ht5 hs5 htl5 hT5 st5
      have lT : T.length ≤ 20 := by rw [A.ln]; unfold begT begK; rw [List.length_map, List.length_range]; omega
      refine ⟨_, rfl, _, rfl, t, _, _, _, rfl, rfl, SqT.of ht5, atI_nat (j := 1) rfl, _, rfl, t, _, _, _, rfl, rfl, SqT.of ht5, atI_nat (j := 2) rfl, _, rfl, t, _, _, _, rfl, rfl, SqT.of ht5, atI_nat (j := 3) rfl, tl, ts, T, m, p.2.1, p.2.2.1, p.2.2.2, ri, rj, rfl, SqL.of htl5, hT5, m7, lT, eri, erj, hc, fun tl' ts' H6 s6 htl0' htl' hT' => ?_⟩
      rw [← estep] at hT'
      have A2 : TAt m (rs.map Rl.d) (begT m ps) ((sw ++ [(t, p)]).map (·.2)) (stepT T p) n' := by rw [List.map_append]; exact A'
      have lT' : (stepT T p).length ≤ 20 := by rw [A2.ln, ← A.ln]; exact lT
      have s56 := s5.trans s6
      have hs6 := s6 _ _ hs5
      have ntl' : tl' ≠ sl := (ne_of_none hs5 htl0').symm
      refine ⟨_, rfl, _, rfl, rl, tl', rs, ts', stepT T p, m, rfl, s56.seq hrl, hRs.same s56, lr, SqL.of htl', hT', m7, lT', fun H7 s7 hn => ?_, fun p' t' H7 s7 hp' ht0' ht' => ?_⟩
      · exact ⟨n', by omega, stepT T p, ts', tl', sl, _, .non, rfl, A2, s56.trans s7, s5.none htl0', s7 _ _ htl', hT'.same s7, hsl0, ntl', s7 _ _ hs6, (st5.same s6).same s7, .inl ⟨hn, rfl⟩⟩
      · exact ⟨n', by omega, stepT T p, ts', tl', sl, _, .ref t', rfl, A2, s56.trans s7, s5.none htl0', s7 _ _ htl', hT'.same s7, hsl0, ntl', s7 _ _ hs6, (st5.same s6).same s7, .inr ⟨p', t', hp', rfl, ht'⟩⟩
abbrev sTake : Stmt := top 32
theorem scTake : FnScope ["_law_state", "_law_most", "_law_script", "_law_at", "_law_number"] ["_law_state", "_law_most"] (defScope sTake) := ⟨rfl, rfl, rfl, by decide +kernel, rfl, by decide +kernel, by decide +kernel⟩
theorem ok_take {f : Addr} {fd : FuncData} (F : Fun K "_law_take" "_law_take" sTake f fd) (zLen : mg "len" = none) : FnOk P w K mg base CX0 1 f fd ["_law_state", "_law_most"] (spTakeF K) := by
  refine F.ok scTake (fun vs H Q E h => ?_) (fun cdv A outer s H vs Q E hr h => ?_)
  · obtain ⟨st, ns, k, most, rfl, _⟩ := h
    rfl
  · obtain ⟨st, ns, k, most, rfl, ⟨sc, hst, hscF⟩, hk, hl, hm, q⟩ := h
    have nd := scTake.nd
    refine ⟨_, pss_cons (ps_asg (pv 0) (pg_lst rfl (pgs_cons (pg_name (i := 2) nd rfl (Or.inl rfl)) (pgs_cons (pg_name (i := 3) nd rfl (Or.inl rfl)) pgs_nil))))
      (pss_cons (ps_asg (pe_op op_add (pv 3) pe_int) (pg_sub (pv 0) pe_int set_list))
      (pss_cons (ps_if (pt_cmpR op_lt (pv 3) (pe_callB call_len_seq (by rfl) zLen PySem.boot_len (pa_cons (pv 2) pa_nil)) (nomark _))
        (pss_one (ps_ret (pe_op op_mod (pe_ix ix_list (pv 2) (pv 3) (fun _ _ => rfl)) (pv 1)))) pss_nil)
      (pss_cons (ps_set (i := 4) nd rfl (Or.inl rfl) (pe_op op_add (pe_op op_add (pe_op op_mul (pe_op op_mul (pv 3) (pv 3)) pe_int) (pe_op op_mul pe_int (pv 3))) pe_int))
      (pss_cons (ps_if (pt_cmpR op_gt (pe_callB call_len_seq (by rfl) zLen PySem.boot_len (pa_cons (pv 2) pa_nil)) pe_int (nomark _))
        (pss_one (ps_set (i := 4) nd rfl (Or.inl rfl) (pe_op op_add (pv 4) (pe_op op_mul (pe_op op_mod (pe_ix ix_list (pv 2) (pe_op op_mod (pe_op op_mul (pv 3) pe_int) (pe_callB call_len_seq (by rfl) zLen PySem.boot_len (pa_cons (pv 2) pa_nil))) (fun _ _ => rfl)) pe_int) (pe_op op_add (pv 3) pe_int))))) pss_nil)
      (pss_one (ps_ret (pe_op op_mod (pe_op op_mod (pe_op op_mul (pe_op op_mod (pe_op op_mul (pv 4) pe_int) pe_int) (pe_op op_add (pe_op op_mod (pv 4) pe_int) pe_int)) pe_int) (pv 1)))))))), ?_⟩
    refine ⟨_, rfl, st, _, rfl, SqL.of hst, rfl, _, _, rfl, _, _, rfl, rfl, ?_⟩
    refine ⟨_, rfl, _, _, rfl, rfl, _, rfl, st, _, 1, 1, rfl, rfl, hst, rfl, ?_⟩
    have bt : But st H (upd H st (.lst [.ref sc, .int ((k : Int) + 1)])) := But.put st H _
    have hscF' : SqF K (upd H st (.lst [.ref sc, .int ((k : Int) + 1)])) sc ns := STF.seq hst hscF bt
    have hsc' := hscF'.sq
    have s' : L2.STF K (upd H st (.lst [.ref sc, .int ((k : Int) + 1)])) st ns (k + 1) := ⟨sc, by rw [upd_same]; rfl, hscF'⟩
    refine ⟨_, rfl, _, rfl, sc, _, rfl, .inl hsc', _, _, rfl, rfl, _, rfl, ?_⟩
    have len1 : (ns.map V.int).length = ns.length := List.length_map ..
    refine ite2 (fun hc => ?_) (fun hc => ?_)
    · have hlt : k < ns.length := by
        have := of_decide_eq_true hc
        rw [len1] at this
        omega
      refine ⟨_, rfl, _, rfl, sc, _, _, _, rfl, rfl, hsc', atI_nat (j := k) (v := V.int ns[k]) (by simp [hlt]), _, rfl, _, _, rfl, rfl, hm, ?_⟩
      exact q _ _ (mod_lo _ hm) (mod_hi _ hm) s' bt
    · refine ⟨_, rfl, _, rfl, _, _, rfl, rfl, .inl ⟨by omega, by omega⟩, _, _, rfl, rfl, .inr ⟨by decide, by decide⟩, _, rfl, _, _, rfl, rfl, .inl ⟨by decide, by decide⟩, _, _, rfl, rfl, _, _, rfl, rfl, ?_⟩
      refine ⟨_, rfl, sc, _, rfl, .inl hsc', _, _, rfl, rfl, _, rfl, ?_⟩
      have fin : ∀ z : Int, (tRet (tOp (rI (fun _ j => 0 < j) fun i j => V.int (i % j)) (tOp (rI (fun _ j => 0 < j) fun i j => V.int (i % j)) (tOp (rI CMul fun i j => V.int (i * j)) (tOp (rI (fun _ j => 0 < j) fun i j => V.int (i % j)) (tOp (rI CMul fun i j => V.int (i * j)) (tVar 4) (tC (.int 48271))) (tC (.int 2147483629)))
          (tOp (rI0 fun i j => V.int (i + j)) (tOp (rI (fun _ j => 0 < j) fun i j => V.int (i % j)) (tVar 4) (tC (.int 65521))) (tC (.int 3)))) (tC (.int 999999937))) (tVar 1)))
          { nx := fun _ H' => Q .non H', rt := Q } [some (.ref st), some (.int most), some (.ref sc), some (.int k), some (.int z)] (upd H st (.lst [.ref sc, .int ((k : Int) + 1)])) := fun z => by
        refine ⟨_, rfl, _, _, rfl, rfl, .inr ⟨by decide, by decide⟩, _, _, rfl, rfl, (by show (0 : Int) < _; decide), _, rfl, _, _, rfl, rfl, (by show (0 : Int) < _; decide), _, _, rfl, rfl, _, _, rfl, rfl, .inl ⟨?_, ?_⟩, _, _, rfl, rfl, (by show (0 : Int) < _; decide), _, rfl, _, _, rfl, rfl, hm, ?_⟩
        · have := mod_lo (z * 48271) (show (0 : Int) < 2147483629 by decide); omega
        · have := mod_hi (z * 48271) (show (0 : Int) < 2147483629 by decide); omega
        · exact q _ _ (mod_lo _ hm) (mod_hi _ hm) s' bt
      refine ite2 (fun hc2 => ?_) (fun hc2 => ?_)
      · have hpos : 0 < ns.length := by
          have := of_decide_eq_true hc2
          rw [len1] at this
          omega
        have hp' : (0 : Int) < ((ns.map V.int).length : Int) := by rw [len1]; omega
        have ix : ∃ j : Nat, ((k : Int) * 3 % ((ns.map V.int).length : Int)) = (j : Int) ∧ j < ns.length := by
          have h1 := mod_lo ((k : Int) * 3) hp'
          have h2 := mod_hi ((k : Int) * 3) hp'
          rw [len1] at h2
          refine ⟨((k : Int) * 3 % ((ns.map V.int).length : Int)).toNat, by omega, ?_⟩
          rw [len1]
          rw [len1] at h1
          omega
        obtain ⟨j, ej, hj⟩ := ix
        refine ⟨_, rfl, _, rfl, _, rfl, _, _, rfl, rfl, .inr ⟨by decide, by decide⟩, _, rfl, sc, _, rfl, .inl hsc', _, _, rfl, rfl, hp', sc, _, _, _, rfl, rfl, hsc', (by rw [ej]; exact atI_nat (j := j) (v := V.int ns[j]) (by simp [hj])), _, _, rfl, rfl, (by show (0 : Int) < _; decide), _, rfl, _, _, rfl, rfl, _, _, rfl, rfl, .inl ⟨?_, ?_⟩, _, _, rfl, rfl, ?_⟩
        · have := mod_lo ns[j] (show (0 : Int) < 2147483563 by decide); omega
        · have := mod_hi ns[j] (show (0 : Int) < 2147483563 by decide); omega
        · exact fin _
      · exact fin _
abbrev sThin : Stmt := top 33
theorem scThin : FnScope ["_law_state", "_law_many", "_law_some"] ["_law_state", "_law_many"] (defScope sThin) := ⟨rfl, rfl, rfl, by decide +kernel, rfl, by decide +kernel, by decide +kernel⟩
theorem ok_thin {f fT : Addr} {fd fdT : FuncData} (F : Fun K "_law_thin" "_law_thin" sThin f fd) (GT : FnOk P w K mg base CX0 1 fT fdT ["_law_state", "_law_most"] (spTakeF K)) (mT : mg "_law_take" = some (.ref fT)) (kT : PySem.W.keepIn K (.ref fT) = true) (bT : Binds K fdT ["_law_state", "_law_most"] []) : FnOk P w K mg base CX0 2 f fd ["_law_state", "_law_many"] (spThin K) := by
  refine F.ok scThin (fun vs H Q E h => ?_) (fun cdv A outer s H vs Q E hr h => ?_)
  · obtain ⟨st, ns, k, m, rfl, _⟩ := h
    rfl
  · obtain ⟨st, ns, k, m, rfl, S, hk, hl, m1, m7, q⟩ := h
    have nd := scThin.nd
    have hr1 : Room 1 _ := hr.mono (by decide)
    have pw0 : 0 < 2 ^ m := Nat.two_pow_pos m
    refine ⟨_, (pss_cons (ps_set (i := 2) nd rfl (Or.inl rfl) (pe_op op_andN (pe_call GT hr1 rfl mT kT bT .nil pass0 (pa_cons (pv 0) (pa_cons (pe_op op_shl1 pe_int (pv 1)) pa_nil))) (pe_call GT hr1 rfl mT kT bT .nil pass0 (pa_cons (pv 0) (pa_cons (pe_op op_shl1 pe_int (pv 1)) pa_nil)))))
      (pss_cons (ps_if (pt_cmpR op_eqN (pe_call GT hr1 rfl mT kT bT .nil pass0 (pa_cons (pv 0) (pa_cons pe_int pa_nil))) pe_int (nomark _)) (pss_one (ps_ret (pe_op op_andN (pv 2) (pe_call GT hr1 rfl mT kT bT .nil pass0 (pa_cons (pv 0) (pa_cons (pe_op op_shl1 pe_int (pv 1)) pa_nil)))))) pss_nil)
      (pss_one (ps_ret (pv 2))))), ?_⟩
    refine ⟨_, rfl, _, rfl, m, rfl, rfl, by omega, st, ns, k, ((2 ^ m : Nat) : Int), rfl, S, by omega, hl, by omega, fun r1 H1 a1 b1 S1 B1 => ?_⟩
    obtain ⟨x1, rfl, h1⟩ := nat_of a1 b1
    refine ⟨_, rfl, _, rfl, m, rfl, rfl, by omega, st, ns, k + 1, ((2 ^ m : Nat) : Int), rfl, S1, by omega, hl, by omega, fun r2 H2 a2 b2 S2 B2 => ?_⟩
    obtain ⟨x2, rfl, h2⟩ := nat_of a2 b2
    have h12 : x1 &&& x2 < 2 ^ m := Nat.lt_of_le_of_lt Nat.and_le_left h1
    refine ⟨x1, x2, rfl, rfl, ?_⟩
    refine ⟨_, rfl, st, ns, k + 2, 3, rfl, S2, by omega, hl, by decide, fun r3 H3 a3 b3 S3 B3 => ?_⟩
    obtain ⟨x3, rfl, h3⟩ := nat_of (n := 3) a3 b3
    have B03 := (B1.trans B2).trans B3
    refine ⟨x3, 0, rfl, rfl, _, rfl, ite2 (fun _ => ?_) (fun _ => ⟨_, rfl, q (x1 &&& x2) (k + 3) H3 h12 (by omega) S3 B03⟩)⟩
    refine ⟨_, rfl, _, rfl, _, rfl, m, rfl, rfl, by omega, st, ns, k + 3, ((2 ^ m : Nat) : Int), rfl, S3, by omega, hl, by omega, fun r4 H4 a4 b4 S4 B4 => ?_⟩
    obtain ⟨x4, rfl, h4⟩ := nat_of a4 b4
    exact ⟨x1 &&& x2, x4, rfl, rfl, q _ (k + 4) H4 (Nat.lt_of_le_of_lt Nat.and_le_left h12) (by omega) S4 (B03.trans B4)⟩
abbrev sTRules : Stmt := top 34
theorem scTRules : FnScope ["_law_state", "_law_many", "_law_rules_here", "_law_k", "_law_word", "_law_left", "_law_right", "_law_way"] ["_law_state", "_law_many"] (defScope sTRules) := ⟨rfl, rfl, rfl, by decide +kernel, rfl, by decide +kernel, by decide +kernel⟩
theorem ok_trules {f fT fTH : Addr} {fd fdT fdTH : FuncData} (F : Fun K "_law_rules" "_law_rules" sTRules f fd) (GT : FnOk P w K mg base CX0 1 fT fdT ["_law_state", "_law_most"] (spTakeF K)) (mT : mg "_law_take" = some (.ref fT)) (kT : PySem.W.keepIn K (.ref fT) = true) (bT : Binds K fdT ["_law_state", "_law_most"] []) (GTH : FnOk P w K mg base CX0 2 fTH fdTH ["_law_state", "_law_many"] (spThin K)) (mTH : mg "_law_thin" = some (.ref fTH)) (kTH : PySem.W.keepIn K (.ref fTH) = true) (bTH : Binds K fdTH ["_law_state", "_law_many"] []) (zrange : mg "range" = none) (zlen : mg "len" = none) : FnOk P w K mg base CX0 3 f fd ["_law_state", "_law_many"] (spTRules K) := by
  refine F.ok scTRules (fun vs H Q E h => ?_) (fun cdv A outer s H vs Q E hr h => ?_)
  · obtain ⟨st, ns, k, m, rfl, _⟩ := h
    rfl
  · obtain ⟨st, ns, k, m, rfl, S, hk, hl, m1, m7, q⟩ := h
    have nd := scTRules.nd
    have hr1 : Room 1 _ := hr.mono (by decide)
    have hr2 : Room 2 _ := hr.mono (by decide)
    have pw0 : 0 < 2 ^ m := Nat.two_pow_pos m
    refine ⟨_, (pss_cons (ps_set (i := 2) nd rfl (Or.inl rfl) (pe_lst pa_nil))
      (pss_cons (ps_for PassesOwn.never rfl (pi_range1 rfl zrange (pa_cons (pe_call GT hr1 rfl mT kT bT .nil pass0 (pa_cons (pv 0) (pa_cons (pe_ix (ix_listK (K := K) rfl) (pe_lst (pa_cons pe_int (pa_cons pe_int (pa_cons pe_int pa_nil)))) (pe_call GT hr1 rfl mT kT bT .nil pass0 (pa_cons (pv 0) (pa_cons pe_int pa_nil))) (fun _ _ => rfl)) pa_nil))) pa_nil)) (pg_name (i := 3) nd rfl (Or.inl rfl)) (pss_cons (ps_set (i := 4) nd rfl (Or.inl rfl) (pe_ix (ix_listK (K := K) rfl) (pe_lst (pa_cons pe_str (pa_cons pe_str pa_nil))) (pe_call GT hr1 rfl mT kT bT .nil pass0 (pa_cons (pv 0) (pa_cons pe_int pa_nil))) (fun _ _ => rfl)))
      (pss_cons (ps_set (i := 5) nd rfl (Or.inl rfl) (pe_call GTH hr2 rfl mTH kTH bTH .nil pass0 (pa_cons (pv 0) (pa_cons (pv 1) pa_nil))))
      (pss_cons (ps_set (i := 6) nd rfl (Or.inl rfl) (pe_call GT hr1 rfl mT kT bT .nil pass0 (pa_cons (pv 0) (pa_cons (pe_op op_shl1 pe_int (pv 1)) pa_nil))))
      (pss_cons (ps_set (i := 7) nd rfl (Or.inl rfl) (pe_call GT hr1 rfl mT kT bT .nil pass0 (pa_cons (pv 0) (pa_cons pe_int pa_nil))))
      (pss_one (ps_if (PW.pt (pw_and (pt_cmpR op_eqN (pv 7) pe_int (nomark _)) (pw_and1 (pt_cmpR (op_neD (K := K) rfl hr.units) (pv 2) (pe_lst pa_nil) (nomark _))))) (pss_one (ps_expr (pe_bm PySem.F.plainAttrs_list PySem.F.slot_list_append PySem.F.type_list_append mt_append (pv 2) (pa_cons (pe_ix (ix_listK (K := K) rfl) (pv 2) (pe_call GT hr1 rfl mT kT bT .nil pass0 (pa_cons (pv 0) (pa_cons (pe_callB (call_lenK (K := K) rfl) (by rfl) zlen PySem.boot_len (pa_cons (pv 2) pa_nil)) pa_nil))) (fun _ _ => rfl)) pa_nil)))) (pss_one (ps_if (pt_cmpR op_ltN (pv 7) pe_int (nomark _)) (pss_one (ps_expr (pe_bm PySem.F.plainAttrs_list PySem.F.slot_list_append PySem.F.type_list_append mt_append (pv 2) (pa_cons (pe_tup (pa_cons (pv 4) (pa_cons (pv 5) (pa_cons (pe_op op_andN (pv 6) (pe_call GT hr1 rfl mT kT bT .nil pass0 (pa_cons (pv 0) (pa_cons (pe_op op_shl1 pe_int (pv 1)) pa_nil)))) pa_nil)))) pa_nil)))) (pss_one (ps_expr (pe_bm PySem.F.plainAttrs_list PySem.F.slot_list_append PySem.F.type_list_append mt_append (pv 2) (pa_cons (pe_tup (pa_cons (pv 4) (pa_cons (pv 5) (pa_cons (pv 6) pa_nil)))) pa_nil)))))))))))))
      (pss_one (ps_ret (pv 2))))), ?_⟩
    refine ⟨Nat.zero_le _, fun g hg => ?_⟩
    obtain ⟨hgH, hgs⟩ := stf_fresh S (But.refl _ _) hg
    have R0 : PR K H st ns m g [] k (upd H g (.lst [])) := ⟨fun r h => absurd h List.not_mem_nil, upd_same, S.new hg, But.new hg, hgH, hgs⟩
    refine ⟨_, rfl, (by show 3 ≤ sizeLine; decide), fun l hl1 => ?_⟩
    have R1 := R0.new (o := .lst [vN 3, vN 5, vN 13]) hl1
    have hls := (stf_fresh R0.S (But.refl _ _) hl1).2
    refine ⟨_, rfl, st, ns, k, 3, rfl, R1.S, by omega, hl, by decide, fun r1 H1 a1 b1 S1 B1 => ?_⟩
    obtain ⟨n1, rfl, hn1⟩ := nat_of (n := 3) a1 b1
    have hl2 := B1 _ _ (upd_same (H := upd H g (.lst [])) (a := l) (o := .lst [vN 3, vN 5, vN 13])) hls
    have R2 := R1.take S1 B1
    obtain ⟨w, ew, hw0, hw⟩ : ∃ w : Nat, ([vN 3, vN 5, vN 13] : List V)[n1]? = some (vN w) ∧ 0 < w ∧ w ≤ 13 := by
      match n1, hn1 with
      | 0, _ => exact ⟨3, rfl, by decide, by decide⟩
      | 1, _ => exact ⟨5, rfl, by decide, by decide⟩
      | 2, _ => exact ⟨13, rfl, by decide, by decide⟩
    refine ⟨l, _, _, _, rfl, rfl, SqL.of hl2, atI_nat ew, st, ns, k + 1, (w : Int), rfl, S1, by omega, hl, by omega, fun r2 H2 a2 b2 S2 B2 => ?_⟩
    obtain ⟨n2, rfl, hn2⟩ := nat_of a2 b2
    have R3 := R2.take S2 B2
    refine ⟨(n2 : Int), rfl, by omega, by omega, for_rangeN (n := n2) (fun i σ H3 => (∃ v3 v4 v5 v6 v7, σ = [some (.ref st), some (vN m), some (.ref g), v3, v4, v5, v6, v7]) ∧ ∃ (rs : List Rl) (k3 : Nat), PR K H st ns m g rs k3 H3 ∧ rs.length ≤ i ∧ k3 ≤ k + 2 + 8 * i) ⟨⟨_, _, _, _, _, rfl⟩, [], k + 2, R3, Nat.le_refl _, Nat.le_refl _⟩ ?_ ?_⟩
    · clear R0 R1 R2 R3 hl2 B1 S1 B2 S2 hg
      rintro i σ H3 hi ⟨⟨v3, v4, v5, v6, v7, rfl⟩, rs, k3, R, hrl, hk3⟩
      refine ⟨(by show 2 ≤ sizeLine; decide), fun l4 hl4 => ?_⟩
      have hls4 := (stf_fresh R.S R.B hl4).2
      have R' := R.new (o := .lst [V.str "settle", V.str "deal"]) hl4
      refine ⟨_, rfl, st, ns, k3, 2, rfl, R'.S, by omega, hl, by decide, fun r4 H4 a4 b4 S4 B4 => ?_⟩
      obtain ⟨n4, rfl, hn4⟩ := nat_of (n := 2) a4 b4
      have hl5 := B4 _ _ (upd_same (H := H3) (a := l4) (o := .lst [V.str "settle", V.str "deal"])) hls4
      obtain ⟨sb, esb⟩ : ∃ sb : Bool, ([V.str "settle", V.str "deal"] : List V)[n4]? = some (V.str (wordS sb)) := by
        match n4, hn4 with
        | 0, _ => exact ⟨true, rfl⟩
        | 1, _ => exact ⟨false, rfl⟩
      have R4 := R'.take S4 B4
      refine ⟨l4, _, _, _, rfl, rfl, SqL.of hl5, atI_nat esb, ?_⟩
      refine ⟨_, rfl, _, rfl, st, ns, k3 + 1, m, rfl, S4, by omega, hl, m1, m7, fun x k5 H5 hx hk5 S5 B5 => ?_⟩
      have R5 := R4.take S5 B5
      refine ⟨_, rfl, _, rfl, m, rfl, rfl, by omega, st, ns, k5, ((2 ^ m : Nat) : Int), rfl, S5, by omega, hl, by omega, fun r6 H6 a6 b6 S6 B6 => ?_⟩
      obtain ⟨y, rfl, hy⟩ := nat_of a6 b6
      have R6 := R5.take S6 B6
      refine ⟨_, rfl, st, ns, k5 + 1, 9, rfl, S6, by omega, hl, by decide, fun r7 H7 a7 b7 S7 B7 => ?_⟩
      obtain ⟨wy, rfl, hwy⟩ := nat_of (n := 9) a7 b7
      have R7 := R6.take S7 B7
      clear R' R4 R5 R6 hl5 R hls4
      have lrs : rs.length ≤ 12 := by omega
      refine ⟨_, rfl, wy, 0, rfl, rfl, _, rfl, ite2 (fun _ => ?_) (fun _ => iteF ?_)⟩
      · refine ⟨_, rfl, Nat.zero_le _, fun el hel => ?_⟩
        have R8 := R7.new (o := .lst []) hel
        refine ⟨.list ((rs.map Rl.d).map dR), .list (([] : List RD).map dR), DV.lst (SqL.of R8.hg) (rules_dv R8.at_), DV.lst (SqL.of upd_same) .nil, shaped_map canLay_dR depth_dR _, shaped_map canLay_dR depth_dR _, noMix_list noMix_dR _ _, _, rfl, ite2 (fun hc => ?_) (fun _ => ?_)⟩
        · rw [if_pos rfl, same_list same_dR] at hc
          have hpos : 0 < rs.length := by
            cases rs with
            | nil => rw [List.map_nil, decide_eq_true rfl] at hc; cases hc
            | cons r rs => exact Nat.succ_pos _
          have hposm : 0 < (rs.map fun (r : Rl) => V.ref r.r).length := by rw [List.length_map]; exact hpos
          refine ⟨_, rfl, .inl ⟨rfl, _, SqL.of R8.hg⟩, _, rfl, _, rfl, _, rfl, g, _, rfl, .inl (SqL.of R8.hg), st, ns, k5 + 2, (((rs.map fun (r : Rl) => V.ref r.r).length : Nat) : Int), rfl, R8.S, by omega, hl, by omega, fun r9 H9 a9 b9 S9 B9 => ?_⟩
          obtain ⟨j, rfl, hj⟩ := nat_of a9 b9
          rw [List.length_map] at hj
          have R9 := R8.take S9 B9
          have erj : rs[j]? = some rs[j] := List.getElem?_eq_getElem hj
          refine ⟨g, _, _, _, rfl, rfl, SqL.of R9.hg, atI_nat (v := V.ref rs[j].r) (by rw [List.getElem?_map, erj]; rfl), ?_⟩
          refine ⟨g, _, _, rfl, rfl, R9.hg, by rw [List.length_map]; exact small1000 (by omega), ⟨_, _, _, _, _, rfl⟩, rs ++ [rs[j]], k5 + 3, R9.put (fun r hr' => ?_) (by rw [List.map_append]; rfl), by rw [List.length_append]; show _ + 1 ≤ _; omega, by omega⟩
          rcases List.mem_append.mp hr' with hr' | hr'
          · exact R9.at_ r hr'
          · rw [List.mem_singleton.mp hr']; exact R9.at_ _ (List.getElem_mem hj)
        · skip
          refine ⟨_, rfl, wy, 4, rfl, rfl, _, rfl, ite2 (fun _ => ?_) (fun _ => ?_)⟩
          · refine ⟨_, rfl, .inl ⟨rfl, _, SqL.of R8.hg⟩, _, rfl, _, rfl, _, rfl, _, rfl, _, rfl, m, rfl, rfl, by omega, st, ns, k5 + 2, ((2 ^ m : Nat) : Int), rfl, R8.S, by omega, hl, by omega, fun r9 H9 a9 b9 S9 B9 => ?_⟩
            obtain ⟨z, rfl, hz⟩ := nat_of a9 b9
            have R9 := R8.take S9 B9
            refine ⟨y, z, rfl, rfl, (by show 3 ≤ sizeLine; decide), fun t ht => ?_⟩
            have RT := R9.new (o := .tup [V.str (wordS sb), vN x, vN (y &&& z)]) ht
            refine ⟨g, _, _, rfl, rfl, RT.hg, by rw [List.length_map]; exact small1000 (by omega), ⟨_, _, _, _, _, rfl⟩, rs ++ [⟨t, sb, x, y &&& z⟩], k5 + 3, RT.put (fun r hr' => ?_) (by rw [List.map_append]; rfl), by rw [List.length_append]; show _ + 1 ≤ _; omega, by omega⟩
            rcases List.mem_append.mp hr' with hr' | hr'
            · exact RT.at_ r hr'
            · rw [List.mem_singleton.mp hr']; exact ⟨upd_same, hx, Nat.lt_of_le_of_lt Nat.and_le_left hy⟩
          · refine ⟨_, rfl, .inl ⟨rfl, _, SqL.of R8.hg⟩, _, rfl, _, rfl, _, rfl, (by show 3 ≤ sizeLine; decide), fun t ht => ?_⟩
            have RT := R8.new (o := .tup [V.str (wordS sb), vN x, vN y]) ht
            refine ⟨g, _, _, rfl, rfl, RT.hg, by rw [List.length_map]; exact small1000 (by omega), ⟨_, _, _, _, _, rfl⟩, rs ++ [⟨t, sb, x, y⟩], k5 + 2, RT.put (fun r hr' => ?_) (by rw [List.map_append]; rfl), by rw [List.length_append]; show _ + 1 ≤ _; omega, by omega⟩
            rcases List.mem_append.mp hr' with hr' | hr'
            · exact RT.at_ r hr'
            · rw [List.mem_singleton.mp hr']; exact ⟨upd_same, hx, hy⟩
      refine ⟨_, rfl, wy, 4, rfl, rfl, _, rfl, ite2 (fun _ => ?_) (fun _ => ?_)⟩
      · refine ⟨_, rfl, .inl ⟨rfl, _, SqL.of R7.hg⟩, _, rfl, _, rfl, _, rfl, _, rfl, _, rfl, m, rfl, rfl, by omega, st, ns, k5 + 2, ((2 ^ m : Nat) : Int), rfl, R7.S, by omega, hl, by omega, fun r9 H9 a9 b9 S9 B9 => ?_⟩
        obtain ⟨z, rfl, hz⟩ := nat_of a9 b9
        have R9 := R7.take S9 B9
        refine ⟨y, z, rfl, rfl, (by show 3 ≤ sizeLine; decide), fun t ht => ?_⟩
        have RT := R9.new (o := .tup [V.str (wordS sb), vN x, vN (y &&& z)]) ht
        refine ⟨g, _, _, rfl, rfl, RT.hg, by rw [List.length_map]; exact small1000 (by omega), ⟨_, _, _, _, _, rfl⟩, rs ++ [⟨t, sb, x, y &&& z⟩], k5 + 3, RT.put (fun r hr' => ?_) (by rw [List.map_append]; rfl), by rw [List.length_append]; show _ + 1 ≤ _; omega, by omega⟩
        rcases List.mem_append.mp hr' with hr' | hr'
        · exact RT.at_ r hr'
        · rw [List.mem_singleton.mp hr']; exact ⟨upd_same, hx, Nat.lt_of_le_of_lt Nat.and_le_left hy⟩
      · refine ⟨_, rfl, .inl ⟨rfl, _, SqL.of R7.hg⟩, _, rfl, _, rfl, _, rfl, (by show 3 ≤ sizeLine; decide), fun t ht => ?_⟩
        have RT := R7.new (o := .tup [V.str (wordS sb), vN x, vN y]) ht
        refine ⟨g, _, _, rfl, rfl, RT.hg, by rw [List.length_map]; exact small1000 (by omega), ⟨_, _, _, _, _, rfl⟩, rs ++ [⟨t, sb, x, y⟩], k5 + 2, RT.put (fun r hr' => ?_) (by rw [List.map_append]; rfl), by rw [List.length_append]; show _ + 1 ≤ _; omega, by omega⟩
        rcases List.mem_append.mp hr' with hr' | hr'
        · exact RT.at_ r hr'
        · rw [List.mem_singleton.mp hr']; exact ⟨upd_same, hx, hy⟩
    · rintro σ H4 ⟨⟨v3, v4, v5, v6, v7, rfl⟩, rs, k3, R, hrl, hk3⟩
      exact ⟨_, rfl, q rs g k3 H4 R (by omega) (by omega)⟩
end
end Own

namespace Own
open PySem L2
section
variable {P : Program} {w : World} {K : PySem.W.Frag} {mg : Str → Option Value} {base : Heap}
seal PySem.wpAny
abbrev sParts53 : Stmt := top 35
theorem scParts53 : FnScope ["_law_state", "_law_many", "_law_most", "_law_whole", "_law_parts_here", "_law_joint", "_law_k", "_law_part", "_law_at"] ["_law_state", "_law_many", "_law_most"] (defScope sParts53) := ⟨rfl, rfl, rfl, by decide +kernel, rfl, by decide +kernel, by decide +kernel⟩
theorem ok_parts53 {f fT fTH : Addr} {fd fdT fdTH : FuncData} (F : Fun K "_law_parts" "_law_parts" sParts53 f fd) (GT : FnOk P w K mg base CX0 1 fT fdT ["_law_state", "_law_most"] (spTakeF K)) (mT : mg "_law_take" = some (.ref fT)) (kT : PySem.W.keepIn K (.ref fT) = true) (bT : Binds K fdT ["_law_state", "_law_most"] []) (GTH : FnOk P w K mg base CX0 2 fTH fdTH ["_law_state", "_law_many"] (spThin K)) (mTH : mg "_law_thin" = some (.ref fTH)) (kTH : PySem.W.keepIn K (.ref fTH) = true) (bTH : Binds K fdTH ["_law_state", "_law_many"] []) (zrange : mg "range" = none) (zlen : mg "len" = none) : FnOk P w K mg base CX0 3 f fd ["_law_state", "_law_many", "_law_most"] (spParts53 K) := by
  refine F.ok scParts53 (fun vs H Q E h => ?_) (fun cdv A outer s H vs Q E hr h => ?_)
  · obtain ⟨st, ns, k, m, mo, rfl, _⟩ := h
    rfl
  · obtain ⟨st, ns, k, m, mo, rfl, S, hk, hl, m1, m7, mo1, mo10, q⟩ := h
    have nd := scParts53.nd
    have hr1 : Room 1 _ := hr.mono (by decide)
    have hr2 : Room 2 _ := hr.mono (by decide)
    have pw0 : 0 < 2 ^ m := Nat.two_pow_pos m
    refine ⟨_, (pss_cons (ps_set (i := 3) nd rfl (Or.inl rfl) (pe_op op_subN (pe_op op_shl1 pe_int (pv 1)) pe_int))
      (pss_cons (ps_set (i := 4) nd rfl (Or.inl rfl) (pe_lst pa_nil))
      (pss_cons (ps_set (i := 5) nd rfl (Or.inl rfl) pe_int)
      (pss_cons (ps_for PassesOwn.never rfl (pi_range1 rfl zrange (pa_cons (pe_op op_addN pe_int (pe_call GT hr1 rfl mT kT bT .nil pass0 (pa_cons (pv 0) (pa_cons (pv 2) pa_nil)))) pa_nil)) (pg_name (i := 6) nd rfl (Or.inl rfl)) (pss_cons (ps_set (i := 7) nd rfl (Or.inl rfl) (pe_call GT hr1 rfl mT kT bT .nil pass0 (pa_cons (pv 0) (pa_cons (pe_op op_shl1 pe_int (pv 1)) pa_nil))))
      (pss_cons (ps_if (pt_cmpR op_eqN (pe_call GT hr1 rfl mT kT bT .nil pass0 (pa_cons (pv 0) (pa_cons pe_int pa_nil))) pe_int (nomark _)) (pss_one (ps_set (i := 7) nd rfl (Or.inl rfl) (pe_call GTH hr2 rfl mTH kTH bTH .nil pass0 (pa_cons (pv 0) (pa_cons (pv 1) pa_nil))))) pss_nil)
      (pss_cons (ps_expr (pe_bm PySem.F.plainAttrs_list PySem.F.slot_list_append PySem.F.type_list_append mt_append (pv 4) (pa_cons (pv 7) pa_nil)))
      (pss_one (ps_set (i := 5) nd rfl (Or.inl rfl) (pe_op op_orN (pv 5) (pv 7))))))))
      (pss_cons (ps_set (i := 8) nd rfl (Or.inl rfl) (pe_call GT hr1 rfl mT kT bT .nil pass0 (pa_cons (pv 0) (pa_cons (pe_callB (call_lenK (K := K) rfl) (by rfl) zlen PySem.boot_len (pa_cons (pv 4) pa_nil)) pa_nil))))
      (pss_cons (ps_asg (pe_op op_orN (pe_ix (ix_listK (K := K) rfl) (pv 4) (pv 8) (fun _ _ => rfl)) (pe_op op_subN (pv 3) (pv 5))) (pg_sub (pv 4) (pv 8) set_list))
      (pss_one (ps_ret (pv 4))))))))), ?_⟩
    refine ⟨_, rfl, m, rfl, rfl, by omega, 2 ^ m, 1, rfl, rfl, pw0, ?_⟩
    refine ⟨Nat.zero_le _, fun g hg0 => ?_⟩
    obtain ⟨_, ngs⟩ := stf_fresh S (But.refl _ _) hg0
    have S1 := S.new (o := .lst []) hg0
    have B1 : But st H (upd H g (.lst [])) := But.new hg0
    have hg1 : (upd H g (.lst [])) g = some (.lst []) := upd_same
    generalize upd H g (.lst []) = H1 at S1 B1 hg1
    refine ⟨_, rfl, _, rfl, st, ns, k, (mo : Int), rfl, S1, by omega, hl, by omega, fun r1 H2 a1 b1 S2 B2 => ?_⟩
    obtain ⟨n1, rfl, hn1⟩ := nat_of (n := mo) a1 b1
    refine ⟨1, n1, rfl, rfl, _, rfl, by omega, by omega, for_rangeN (n := 1 + n1) (fun i σ H' => ∃ (v6 v7 v8 : Option V), True ∧ ∃ (ps : List Nat) (k' : Nat), σ = [some (.ref st), some (vN m), some (vN mo), some (vN (2 ^ m - 1)), some (.ref g), some (vN (ps.foldl (· ||| ·) 0)), v6, v7, v8] ∧ H' g = some (.lst (ps.map vN)) ∧ ps.length = i ∧ (∀ q ∈ ps, q < 2 ^ m) ∧ k' ≤ k + 1 + 6 * i ∧ STF K H' st ns k' ∧ But st H H') ⟨_, _, _, trivial, [], k + 1, rfl, B2 _ _ hg1 ngs, rfl, (fun q h => absurd h List.not_mem_nil), by omega, S2, B1.trans B2⟩ (fun i σ H' hi h => ?_) (fun σ H' h => ?_)⟩
    · obtain ⟨v6, v7, v8, _, ps, k', rfl, hg', lp, hps, hk', S', b'⟩ := h
      refine ⟨_, rfl, _, rfl, m, rfl, rfl, by omega, st, ns, k', ((2 ^ m : Nat) : Int), rfl, S', by omega, hl, by omega, fun r2 H3 a2 b2 S3 B3 => ?_⟩
      obtain ⟨x, rfl, hx⟩ := nat_of a2 b2
      have hg3 := B3 _ _ hg' ngs
      refine ⟨_, rfl, st, ns, k' + 1, 3, rfl, S3, by omega, hl, by decide, fun r3 H4 a3 b3 S4 B4 => ?_⟩
      obtain ⟨w3, rfl, hw3⟩ := nat_of (n := 3) a3 b3
      have hg4 := B4 _ _ hg3 ngs
      have b4 := (b'.trans B3).trans B4
      refine ⟨w3, 0, rfl, rfl, _, rfl, ite2 (fun _ => ?_) (fun _ => ?_)⟩
      · refine ⟨_, rfl, _, rfl, st, ns, k' + 2, m, rfl, S4, by omega, hl, m1, m7, fun z k5 H5 hz hk5 S5 B5 => ?_⟩
        have hg5 := B5 _ _ hg4 ngs
        have b5 := b4.trans B5
        refine ⟨_, rfl, .inl ⟨rfl, _, SqL.of hg5⟩, _, rfl, g, _, _, rfl, rfl, hg5, small1000 (by rw [List.length_map]; omega), ?_⟩
        refine ⟨_, rfl, _, rfl, ps.foldl (· ||| ·) 0, z, rfl, rfl, ?_⟩
        refine ⟨some (vN i), some (vN z), v8, trivial, ps ++ [z], k5, by rw [List.foldl_append]; rfl, by rw [upd_same, List.map_append]; rfl, by rw [List.length_append, lp]; rfl, fun q hq => ?_, by omega, S5.put hg5 ngs, b5.own hg0⟩
        rcases List.mem_append.mp hq with hq | hq
        · exact hps q hq
        · rw [List.mem_singleton.mp hq]; exact hz
      · skip
        refine ⟨_, rfl, .inl ⟨rfl, _, SqL.of hg4⟩, _, rfl, g, _, _, rfl, rfl, hg4, small1000 (by rw [List.length_map]; omega), ?_⟩
        refine ⟨_, rfl, _, rfl, ps.foldl (· ||| ·) 0, x, rfl, rfl, ?_⟩
        refine ⟨some (vN i), some (vN x), v8, trivial, ps ++ [x], k' + 2, by rw [List.foldl_append]; rfl, by rw [upd_same, List.map_append]; rfl, by rw [List.length_append, lp]; rfl, fun q hq => ?_, by omega, S4.put hg4 ngs, b4.own hg0⟩
        rcases List.mem_append.mp hq with hq | hq
        · exact hps q hq
        · rw [List.mem_singleton.mp hq]; exact hx
    · obtain ⟨v6, v7, v8, _, ps, k', rfl, hg', lp, hps, hk', S', b'⟩ := h
      have lpm : (ps.map vN).length = ps.length := List.length_map ..
      refine ⟨_, rfl, _, rfl, g, _, rfl, .inl (SqL.of hg'), st, ns, k', (((ps.map vN).length : Nat) : Int), rfl, S', by omega, hl, by omega, fun r2 H3 a2 b2 S3 B3 => ?_⟩
      obtain ⟨at_, rfl, hat⟩ := nat_of a2 b2
      have hg3 := B3 _ _ hg' ngs
      rw [lpm] at hat
      obtain ⟨p, ep⟩ : ∃ p, ps[at_]? = some p := ⟨_, List.getElem?_eq_getElem hat⟩
      have epv : (ps.map vN)[at_]? = some (vN p) := by rw [List.getElem?_map, ep]; rfl
      have hj := or_lt hps
      obtain ⟨hall, hfull⟩ := parts_full hps ep
      refine ⟨_, rfl, _, rfl, g, _, _, _, rfl, rfl, SqL.of hg3, atI_nat epv, _, rfl, _, rfl, 2 ^ m - 1, ps.foldl (· ||| ·) 0, rfl, rfl, (by show ps.foldl (· ||| ·) 0 ≤ 2 ^ m - 1; omega), p, 2 ^ m - 1 - ps.foldl (· ||| ·) 0, rfl, rfl, _, rfl, _, rfl, g, _, _, at_, rfl, rfl, hg3, ?_, ?_⟩
      · unfold ixN
        rw [if_pos (Int.natCast_nonneg at_), lpm, if_pos (by omega), Int.toNat_natCast]
      have eset : (ps.map vN).set at_ (vN (p ||| (2 ^ m - 1 - ps.foldl (· ||| ·) 0))) = (ps.set at_ (p ||| (2 ^ m - 1 - ps.foldl (· ||| ·) 0))).map vN := by rw [List.map_set]
      refine ⟨_, rfl, ?_⟩
      refine q _ g (k' + 1) _ hall (by rw [List.length_set]; omega) (by rw [List.length_set]; omega) hfull (by omega) (S3.put hg3 ngs) ((b'.trans B3).own hg0) hg0 ngs ?_
      rw [upd_same]
      exact congrArg (fun l => some (HO.lst l)) eset
abbrev sFirst5 : Stmt := top 36
theorem scFirst5 : FnScope ["_law_many", "_law_parts_here", "_law_rows", "_law_k"] ["_law_many", "_law_parts_here"] (defScope sFirst5) := ⟨rfl, rfl, rfl, by decide +kernel, rfl, by decide +kernel, by decide +kernel⟩
theorem ok_first5 {f : Addr} {fd : FuncData} (F : Fun K "_law_first" "_law_first" sFirst5 f fd) (zrange : mg "range" = none) (zlen : mg "len" = none) (zint : mg "int" = none) : FnOk P w K mg base CX0 1 f fd ["_law_many", "_law_parts_here"] (spFirst55 K) := by
  refine F.ok scFirst5 (fun vs H Q E h => ?_) (fun cdv A outer s' H vs Q E hr h => ?_)
  · obtain ⟨m, pl, ps, rfl, _⟩ := h
    rfl
  · obtain ⟨m, pl, ps, rfl, m1, m7, hpl, lp, hps, q⟩ := h
    have nd := scFirst5.nd
    have p7 := pow7 m7
    have lpm : (ps.map vN).length = ps.length := List.length_map ..
    refine ⟨_, (pss_cons (ps_set (i := 2) nd rfl (Or.inl rfl) (pe_lst pa_nil))
      (pss_cons (ps_for PassesOwn.never rfl (pi_range1 rfl zrange (pa_cons (pe_callB (call_lenK (K := K) rfl) (by rfl) zlen PySem.boot_len (pa_cons (pv 1) pa_nil)) pa_nil)) (pg_name (i := 3) nd rfl (Or.inr rfl)) (pss_one (ps_expr (pe_bm PySem.F.plainAttrs_list PySem.F.slot_list_append PySem.F.type_list_append mt_append (pv 2) (pa_cons (pe_comp (xs := ["_law_c"]) (cs ["_law_many", "_law_parts_here", "_law_rows", "_law_k"] (defScope sFirst5) rfl rfl (by decide +kernel)) rfl (pi_range1 rfl zrange (pa_cons (pv 0) pa_nil)) (fun _ _ _ => pg_name (i := 0) (show (["_law_c", "_law_many", "_law_parts_here", "_law_rows", "_law_k"] : List Str).Nodup by decide +kernel) rfl (Or.inl rfl)) (fun _ _ _ => pts_nil) (fun _ _ _ => (pe_op op_mulN (pe_op op_addN (pv 4) pe_int) (pe_callTy call_int1 (by rfl) zint PyProof.Rows.boot_int (pa_cons (pe_cmpR op_eqN (pe_op op_modN' (pe_op op_fdivN' (pe_ix (ix_listK (K := K) rfl) (pv 2) (pv 4) (fun _ _ => rfl)) (pe_op op_shl1 pe_int (pv 0))) pe_int) pe_int (nomark _)) pa_nil))))) pa_nil)))))
      (pss_one (ps_ret (pv 2))))), ?_⟩
    refine ⟨Nat.zero_le _, fun rp hrp0 => ?_⟩
    refine ⟨_, rfl, pl, _, rfl, .inl ((Same.new hrp0).seq hpl), (((ps.map vN).length : Nat) : Int), rfl, by omega, by omega, for_rangeN (n := (ps.map vN).length) (fun i σ H' => (∃ v4, σ = [some (vN m), some (.ref pl), some (.ref rp), v4]) ∧ Same H H' ∧ ∃ as : List Addr, H' rp = some (.lst (as.map V.ref)) ∧ LB H' m as (begK m ps i) ∧ (∀ a ∈ as, H a = none) ∧ rp ∉ as) ⟨⟨_, rfl⟩, Same.new hrp0, [], upd_same, LB.nil _ _, (fun a h => absurd h List.not_mem_nil), List.not_mem_nil⟩ (fun i σ H1 hi h => ?_) (fun σ H1 h => ?_)⟩
    · obtain ⟨⟨v4, rfl⟩, s1, as, hrp, hB, hno, nrp⟩ := h
      rw [lpm] at hi
      have ep : ps[i]? = some ps[i] := List.getElem?_eq_getElem hi
      obtain ⟨p, hp0⟩ : ∃ p, p = ps[i] := ⟨_, rfl⟩
      rw [← hp0] at ep
      have hp := hps p (List.mem_of_getElem? ep)
      have epv : (ps.map vN)[i]? = some (vN p) := by rw [List.getElem?_map, ep]; rfl
      have epd : ps.getD i 0 = p := by rw [List.getD_eq_getElem?_getD, ep]; rfl
      have bk : begK m ps (i + 1) = begK m ps i ++ [begRow m i p] := by
        unfold begK
        rw [List.range_succ, List.map_append, ← epd]; rfl
      have las : as.length = i := by rw [hB.len]; unfold begK; rw [List.length_map, List.length_range]
      refine ⟨_, rfl, .inl ⟨rfl, _, SqL.of hrp⟩, _, rfl, (m : Int), rfl, by omega, by omega, lc_rangeN (k := m) (fun c acc H' => H' = H1 ∧ acc = ((List.range c).map fun c => if hasB p c = true then (0 : Int) else ((i + 1 : Nat) : Int)).map V.int) (by omega) ⟨rfl, rfl⟩ (fun c acc H' hc h => ?_) (fun c acc H' hc h => ?_) (fun acc H' h => ?_)⟩
      · obtain ⟨rfl, rfl⟩ := h
        rw [List.length_map, List.length_map, List.length_range]
        exact Nat.le_refl _
      · obtain ⟨rfl, rfl⟩ := h
        have p1 : 0 < 2 ^ c := Nat.two_pow_pos c
        have p2 : 2 ^ c < 2 ^ 8 := Nat.pow_lt_pow_right (by decide) (by omega)
        refine ⟨rfl, _, rfl, i, 1, rfl, rfl, _, rfl, _, rfl, pl, _, _, _, rfl, rfl, s1.seq hpl, atI_nat epv, _, rfl, c, rfl, rfl, by omega, p, 2 ^ c, rfl, rfl, ⟨p1, by omega⟩, p / 2 ^ c, 2, rfl, rfl, (by show 0 < 2; decide), p / 2 ^ c % 2, 0, rfl, rfl, .inr ⟨_, rfl, ?_⟩⟩
        have hm := Nat.mod_two_eq_zero_or_one (p / 2 ^ c)
        obtain ⟨j, ej, ev⟩ : ∃ j : Nat, (if decide (p / 2 ^ c % 2 = 0) = true then (1 : Int) else 0) = (j : Int) ∧ (((i + 1) * j : Nat) : Int) = if hasB p c = true then (0 : Int) else ((i + 1 : Nat) : Int) := by
          rw [hasB_div]
          rcases hm with hm | hm
          · rw [hm]
            exact ⟨1, rfl, by rw [Nat.mul_one]; rfl⟩
          · rw [hm]
            exact ⟨0, rfl, rfl⟩
        refine ⟨i + 1, j, rfl, congrArg V.int ej, (by show i + 1 < 2 ^ 64; omega), rfl, ?_⟩
        rw [List.range_succ, List.map_append, List.map_append, List.map_singleton, ← ev]
        rfl
      obtain ⟨rfl, rfl⟩ := h
      intro d hd
      have erow : ((List.range m).map fun c => if hasB p c = true then (0 : Int) else ((i + 1 : Nat) : Int)) = begRow m i p := by
        have hlen : (begRow m i p).length = m := begRow_len m i p
        refine List.ext_getElem (by rw [List.length_map, List.length_range, hlen]) fun c h1 h2 => ?_
        have hc : c < m := by rw [hlen] at h2; exact h2
        have := begRow_get (m := m) (i := i) (p := p) hc
        rw [List.getD_eq_getElem?_getD, List.getElem?_eq_getElem h2] at this
        have t2 : (begRow m i p)[c] = if hasB p c = true then 0 else ((i + 1 : Nat) : Int) := this
        rw [t2, List.getElem_map, List.getElem_range]
      rw [erow]
      have sd := Same.new (o := .lst ((begRow m i p).map V.int)) hd
      have hrp2 := sd _ _ hrp
      have nrd : rp ≠ d := ne_of_none hrp hd
      have nda : d ∉ as := hB.fresh hd
      have nrp' : rp ∉ as ++ [d] := fun z => by
        rcases List.mem_append.mp z with z | z
        · exact nrp z
        · exact nrd (List.mem_singleton.mp z)
      refine ⟨rp, _, _, rfl, rfl, hrp2, small1000 (by rw [List.length_map]; omega), ?_⟩
      refine ⟨⟨_, rfl⟩, (s1.trans sd).own hrp0, as ++ [d], by rw [upd_same, List.map_append]; rfl, ?_, fun a' ha' => ?_, nrp'⟩
      · rw [bk]
        exact ((hB.same sd).snoc (a := d) nda upd_same (begRow_len ..)).put nrp'
      · rcases List.mem_append.mp ha' with ha' | ha'
        · exact hno a' ha'
        · rw [List.mem_singleton.mp ha']; exact s1.none hd
    obtain ⟨⟨v4, rfl⟩, s1, as, hrp, hB, hno, nrp⟩ := h
    rw [lpm] at hB
    exact ⟨_, rfl, q rp as H1 s1 hrp0 hrp hB hno nrp⟩
end
end Own

namespace Own
open PySem L2
section
variable {P : Program} {w : World} {K : PySem.W.Frag} {mg : Str → Option Value} {base : Heap}
seal PySem.wpAny
abbrev sDone5 : Stmt := top 37
theorem scDone5 : FnScope ["_law_rows", "_law_rules_here", "_law_step", "_law_k", "_law_i", "_law_j", "_law_column", "_law_row", "_law_kinds", "_law_low", "_law_high"] ["_law_rows", "_law_rules_here", "_law_step"] (defScope sDone5) := ⟨rfl, rfl, rfl, by decide +kernel, rfl, by decide +kernel, by decide +kernel⟩
theorem noVisD5 : ¬ Vis (defScope sDone5) "" := by rintro (h | h | h) <;> exact absurd h (by decide +kernel)
theorem ok_done5 {f fL : Addr} {fd fdL : FuncData} (F : Fun K "_law_done" "_law_done" sDone5 f fd) (GL : FnOk P w K mg base CX0 3 fL fdL ["one", "other", "some"] (spAlike K)) (mL : mg "alike" = some (.ref fL)) (kL : PySem.W.keepIn K (.ref fL) = true) (bL : Binds K fdL ["one", "other", "some"] []) (zlen : mg "len" = none) (ztuple : mg "tuple" = none) (zset : mg "set" = none) (zsorted : mg "sorted" = none) : FnOk P w K mg base CX0 4 f fd ["_law_rows", "_law_rules_here", "_law_step"] (spDone55 K) := by
  refine F.ok scDone5 (fun vs H Q E h => ?_) (fun cdv A outer s' H vs Q E hr h => ?_)
  · obtain ⟨tl, rl, t, rs, as, T, m, p, rfl, _⟩ := h
    rfl
  · obtain ⟨tl, rl, t, rs, as, T, m, p, rfl, hrl, hRs, lr, htl, hB, ntl, m7, lT, ht, hp, q⟩ := h
    have nd := scDone5.nd
    have hr3 : Room 3 _ := hr.mono (by decide)
    have p7 := pow7 m7
    have lam : (as.map V.ref).length = T.length := by rw [List.length_map]; exact hB.len
    have lrm : (rs.map fun (r : Rl) => V.ref r.r).length = rs.length := List.length_map ..
    have hrules : Rules m (rs.map Rl.d) := fun r hr' => by
      obtain ⟨r', h1, rfl⟩ := List.mem_map.mp hr'
      exact (hRs r' h1).2
    obtain ⟨ri, rj, x, y, S, hc, ne, estep, ecol, ekind⟩ := step_kinds m7 hrules hB.rl hp
    obtain ⟨r0, er0, ed0⟩ : ∃ r0, rs[p.1]? = some r0 ∧ r0.d = (true, x, y) := by
      have := S.rule
      rw [List.getElem?_map] at this
      obtain ⟨r0, h1, h2⟩ := Option.map_eq_some_iff.mp this
      exact ⟨r0, h1, h2⟩
    have hk : p.1 < rs.length := (List.getElem?_eq_some_iff.mp er0).1
    have est : r0.st = true := congrArg (·.1) ed0
    have ex : r0.x = x := congrArg (·.2.1) ed0
    have ey : r0.y = y := congrArg (·.2.2) ed0
    obtain ⟨hr0, hx0, hy0⟩ := hRs r0 (List.mem_of_getElem? er0)
    have erv : (rs.map fun (r : Rl) => V.ref r.r)[p.1]? = some (V.ref r0.r) := by rw [List.getElem?_map, er0]; rfl
    have hj : p.2.2.1 < T.length := (List.getElem?_eq_some_iff.mp S.ej).1
    obtain ⟨ti, eti⟩ : ∃ t, as[p.2.1]? = some t := ⟨_, List.getElem?_eq_getElem (by rw [hB.len]; exact (List.getElem?_eq_some_iff.mp S.ei).1)⟩
    obtain ⟨tj, etj⟩ : ∃ t, as[p.2.2.1]? = some t := ⟨_, List.getElem?_eq_getElem (by rw [hB.len]; exact hj)⟩
    have eiv : (as.map V.ref)[p.2.1]? = some (V.ref ti) := by rw [List.getElem?_map, eti]; rfl
    have ejv : (as.map V.ref)[p.2.2.1]? = some (V.ref tj) := by rw [List.getElem?_map, etj]; rfl
    have hi1 := hB.at_ _ ti ri eti S.ei
    have hj1 := hB.at_ _ tj rj etj S.ej
    have li := hB.rl ri (List.mem_of_getElem? S.ei)
    have lj := hB.rl rj (List.mem_of_getElem? S.ej)
    have hbit : y / 2 ^ p.2.2.2 % 2 = 1 := by
      have h1 := S.un
      rw [unl_range m7 (by rw [← ey]; exact hy0)] at h1
      have h2 := List.find?_some h1
      unfold unlQ at h2
      rw [Bool.and_eq_true, hasB_div] at h2
      exact of_decide_eq_true h2.1
    refine ⟨_, (pss_cons (ps_asg (pv 2) (pg_tup rfl (pgs_cons (pg_name (i := 3) nd rfl (Or.inl rfl)) (pgs_cons (pg_name (i := 4) nd rfl (Or.inl rfl)) (pgs_cons (pg_name (i := 5) nd rfl (Or.inl rfl)) (pgs_cons (pg_name (i := 6) nd rfl (Or.inr rfl)) pgs_nil))))))
      (pss_cons (ps_if (PW.pt (pw_or (pt_not (pt_chain op_leN op_ltN pe_int (pv 3) (pe_callB (call_lenK (K := K) rfl) (by rfl) zlen PySem.boot_len (pa_cons (pv 1) pa_nil)))) (pw_or (pt_not (pt_chain3 op_leN op_ltN op_ltN pe_int (pv 4) (pv 5) (pe_callB (call_lenK (K := K) rfl) (by rfl) zlen PySem.boot_len (pa_cons (pv 0) pa_nil)))) (pw_or1 (pt_cmpR op_ne (pe_ix (ix_tupK (K := K) rfl) (pe_ix (ix_listK (K := K) rfl) (pv 1) (pv 3) (fun _ _ => rfl)) pe_int (fun _ _ => rfl)) pe_str (nomark _)))))) (pss_one (ps_ret pe_bl)) pss_nil)
      (pss_cons (ps_if (PW.pt (pw_or (pt_not (pt_val (pe_call GL hr3 rfl mL kL bL .nil pass0 (pa_cons (pe_callTy (call_tupleK (K := K) rfl) (by rfl) ztuple PyProof.Rows.boot_tuple (pa_cons (pe_ix (ix_listK (K := K) rfl) (pv 0) (pv 4) (fun _ _ => rfl)) pa_nil)) (pa_cons (pe_callTy (call_tupleK (K := K) rfl) (by rfl) ztuple PyProof.Rows.boot_tuple (pa_cons (pe_ix (ix_listK (K := K) rfl) (pv 0) (pv 5) (fun _ _ => rfl)) pa_nil)) (pa_cons (pe_ix (ix_tupK (K := K) rfl) (pe_ix (ix_listK (K := K) rfl) (pv 1) (pv 3) (fun _ _ => rfl)) pe_int (fun _ _ => rfl)) pa_nil)))))) (pw_or1 (pt_cmpR op_eqN (pe_op op_modN' (pe_op op_fdivN' (pe_ix (ix_tupK (K := K) rfl) (pe_ix (ix_listK (K := K) rfl) (pv 1) (pv 3) (fun _ _ => rfl)) pe_int (fun _ _ => rfl)) (pe_op op_shl1 pe_int (pv 6))) pe_int) pe_int (nomark _))))) (pss_one (ps_ret pe_bl)) pss_nil)
      (pss_cons (ps_set (i := 8) nd rfl (Or.inl rfl) (pe_callB call_lenS (by rfl) zlen PySem.boot_len (pa_cons (pe_callTy (call_setI (K := K) rfl rfl) (by rfl) zset PyProof.Rows.boot_set (pa_cons (pe_hide 7 (show ¬ Vis (defScope sDone5) "" from noVisD5) (pe_comp (xs := ["_law_row"]) (cs ["_law_rows", "_law_rules_here", "_law_step", "_law_k", "_law_i", "_law_j", "_law_column", "", "_law_kinds", "_law_low", "_law_high"] (defScope sDone5) rfl rfl (by decide +kernel)) rfl (pi_listK (K := K) rfl (pv 0)) (fun _ _ _ => pg_name (i := 0) (show (["_law_row", "_law_rows", "_law_rules_here", "_law_step", "_law_k", "_law_i", "_law_j", "_law_column", "", "_law_kinds", "_law_low", "_law_high"] : List Str).Nodup by decide +kernel) rfl (Or.inl rfl)) (fun _ _ _ => pts_nil) (fun _ _ _ => (pe_ix (ix_listK (K := K) rfl) (pv 0) (pv 7) (fun _ _ => rfl))))) pa_nil)) pa_nil)))
      (pss_cons (ps_asg (pe_callB (call_sortedK (K := K) rfl) (by rfl) zsorted PyProof.Rows.boot_sorted (pa_cons (pe_lst (pa_cons (pe_ix (ix_listK (K := K) rfl) (pe_ix (ix_listK (K := K) rfl) (pv 0) (pv 4) (fun _ _ => rfl)) (pv 6) (fun _ _ => rfl)) (pa_cons (pe_ix (ix_listK (K := K) rfl) (pe_ix (ix_listK (K := K) rfl) (pv 0) (pv 5) (fun _ _ => rfl)) (pv 6) (fun _ _ => rfl)) pa_nil))) pa_nil)) (pg_lst rfl (pgs_cons (pg_name (i := 9) nd rfl (Or.inl rfl)) (pgs_cons (pg_name (i := 10) nd rfl (Or.inl rfl)) pgs_nil))))
      (pss_cons (ps_for PassesOwn.never rfl (pi_listK (K := K) rfl (pv 0)) (pg_name (i := 7) nd rfl (Or.inl rfl)) (pss_one (ps_if (pt_cmpR op_eqI (pe_ix (ix_listK (K := K) rfl) (pv 7) (pv 6) (fun _ _ => rfl)) (pv 10) (nomark _)) (pss_one (ps_asg (pv 9) (pg_sub (pv 7) (pv 6) set_list))) pss_nil)))
      (pss_forget 7 (pss_one (ps_ret (pe_and (pe_cmpR op_neI (pv 9) (pv 10) (nomark _)) (pe_one (pe_cmpR op_eqN (pe_callB call_lenS (by rfl) zlen PySem.boot_len (pa_cons (pe_callTy (call_setI (K := K) rfl rfl) (by rfl) zset PyProof.Rows.boot_set (pa_cons (pe_hide 7 (show ¬ Vis (defScope sDone5) "" from noVisD5) (pe_comp (xs := ["_law_row"]) (cs ["_law_rows", "_law_rules_here", "_law_step", "_law_k", "_law_i", "_law_j", "_law_column", "", "_law_kinds", "_law_low", "_law_high"] (defScope sDone5) rfl rfl (by decide +kernel)) rfl (pi_listK (K := K) rfl (pv 0)) (fun _ _ _ => pg_name (i := 0) (show (["_law_row", "_law_rows", "_law_rules_here", "_law_step", "_law_k", "_law_i", "_law_j", "_law_column", "", "_law_kinds", "_law_low", "_law_high"] : List Str).Nodup by decide +kernel) rfl (Or.inl rfl)) (fun _ _ _ => pts_nil) (fun _ _ _ => (pe_ix (ix_listK (K := K) rfl) (pv 0) (pv 7) (fun _ _ => rfl))))) pa_nil)) pa_nil)) (pe_op op_subN (pv 8) pe_int) (nomark _))))))))))))), ?_⟩
    refine ⟨_, rfl, t, _, rfl, SqT.of ht, rfl, _, _, rfl, _, _, rfl, _, _, rfl, _, _, rfl, rfl, ?_⟩
    refine ⟨_, rfl, 0, p.1, rfl, rfl, _, rfl, ?_⟩
    rw [decide_eq_true (Nat.zero_le _)]
    refine iteT ?_
    refine ⟨_, rfl, rl, _, rfl, .inl hrl, p.1, (rs.map fun (r : Rl) => V.ref r.r).length, rfl, rfl, _, rfl, ?_⟩
    rw [lrm, decide_eq_true hk]
    refine iteF ?_
    refine ⟨_, rfl, 0, p.2.1, rfl, rfl, _, rfl, ?_⟩
    rw [decide_eq_true (Nat.zero_le _)]
    refine iteT ?_
    refine ⟨_, rfl, p.2.1, p.2.2.1, rfl, rfl, _, rfl, ?_⟩
    rw [decide_eq_true S.lt]
    refine iteT ?_
    refine ⟨_, rfl, tl, _, rfl, .inl (SqL.of htl), p.2.2.1, (as.map V.ref).length, rfl, rfl, _, rfl, ?_⟩
    rw [lam, decide_eq_true hj]
    refine iteF ?_
    refine ⟨_, rfl, _, rfl, rl, _, _, _, rfl, rfl, hrl, atI_nat erv, r0.r, _, _, _, rfl, rfl, SqT.of hr0, atI_nat (j := 0) rfl, rfl, _, rfl, ?_⟩
    rw [est]
    refine ite2 (fun hc' => absurd hc' (by decide)) (fun _ => ?_)
    -- alike at the rule's left
    refine ⟨_, rfl, _, rfl, tl, _, _, _, rfl, rfl, SqL.of htl, atI_nat eiv, ti, _, rfl, .inl ⟨SqL.of hi1, fun ui hui => ?_⟩⟩
    have sA := Same.new (o := .tup (ri.map V.int)) hui
    have huiA : (upd H ui (.tup (ri.map V.int))) ui = some (.tup (ri.map V.int)) := upd_same
    generalize upd H ui (.tup (ri.map V.int)) = HA at sA huiA
    refine ⟨_, rfl, _, rfl, tl, _, _, _, rfl, rfl, SqL.of (sA _ _ htl), atI_nat ejv, tj, _, rfl, .inl ⟨SqL.of (sA _ _ hj1), fun uj huj => ?_⟩⟩
    have sB := sA.trans (Same.new (o := .tup (rj.map V.int)) huj)
    have hujB : (upd HA uj (.tup (rj.map V.int))) uj = some (.tup (rj.map V.int)) := upd_same
    have huiB := (Same.new (o := .tup (rj.map V.int)) huj) _ _ huiA
    generalize upd HA uj (.tup (rj.map V.int)) = HB at sB hujB huiB
    have hxx : x < 2 ^ m := by rw [← ex]; exact hx0
    refine ⟨_, rfl, _, rfl, rl, _, _, _, rfl, rfl, sB.seq hrl, atI_nat erv, r0.r, _, _, _, rfl, rfl, SqT.of (sB _ _ hr0), atI_nat (j := 1) rfl, ui, uj, ri, rj, r0.x, rfl, SqT.of huiB, SqT.of hujB, (by rw [ex]; exact Nat.lt_of_lt_of_le hxx (Nat.pow_le_pow_right (by decide) (by omega))), (fun c hc' => ?_), fun HC sC => ?_⟩
    · rw [ex] at hc'
      have := hasb_lt hxx ((cols_mem (by omega) c).mp hc')
      omega
    rw [ex, S.al]
    refine ⟨_, rfl, iteF ?_⟩
    have sBC := sB.trans sC
    have p1 : 0 < 2 ^ p.2.2.2 := Nat.two_pow_pos _
    have p2 : 2 ^ p.2.2.2 < 2 ^ 8 := Nat.pow_lt_pow_right (by decide) (by omega)
    refine ⟨_, rfl, _, rfl, rl, _, _, _, rfl, rfl, sBC.seq hrl, atI_nat erv, r0.r, _, _, _, rfl, rfl, SqT.of (sBC _ _ hr0), atI_nat (j := 2) rfl, _, rfl, p.2.2.2, rfl, rfl, by omega, r0.y, 2 ^ p.2.2.2, rfl, rfl, ⟨p1, by omega⟩, r0.y / 2 ^ p.2.2.2, 2, rfl, rfl, (by show 0 < 2; decide), r0.y / 2 ^ p.2.2.2 % 2, 0, rfl, rfl, _, rfl, ?_⟩
    rw [ey, hbit]
    refine iteF ?_
    have htlC := sBC _ _ htl
    have hBC := hB.same sBC
    -- the kinds of the column
    refine ⟨(fun v z => by cases z), _, rfl, tl, rfl, ⟨_, SqL.of htlC⟩, lc_list (K := K) (xs := as.map V.ref) (fun k acc H' => H' = HC ∧ acc = (((T).take k).map fun r => r.getD p.2.2.2 0).map V.int) (by rw [lam]; omega) ⟨rfl, rfl⟩ (fun k acc H' hk h => ?_) (fun k v acc H' hv h => ?_) (fun acc H' h => ?_)⟩
    · obtain ⟨rfl, rfl⟩ := h
      exact ⟨SqL.of htlC, by rw [List.length_map, List.length_map]; exact List.length_take_le _ _⟩
    · obtain ⟨rfl, rfl⟩ := h
      rw [List.getElem?_map] at hv
      cases ea : as[k]? with
      | none => rw [ea] at hv; cases hv
      | some a =>
        rw [ea] at hv
        obtain rfl := (Option.some.inj hv).symm
        obtain ⟨r, er, hra, lra⟩ := hBC.get ea
        refine ⟨rfl, _, rfl, _, rfl, a, _, _, _, rfl, rfl, SqL.of hra, atI_nat (getD_int (by omega)), rfl, ?_⟩
        rw [List.take_succ, er, List.map_append, List.map_append]
        rfl
    obtain ⟨rfl, rfl⟩ := h
    rw [lam, List.take_length]
    intro cl hcl
    have sD := Same.new (o := .lst ((T.map fun r => r.getD p.2.2.2 0).map V.int)) hcl
    have hclD : (upd H' cl (.lst ((T.map fun r => r.getD p.2.2.2 0).map V.int))) cl = some (.lst ((colT T p.2.2.2).map V.int)) := upd_same
    generalize upd H' cl (.lst ((T.map fun r => r.getD p.2.2.2 0).map V.int)) = HD at sD hclD
    have lcol : (colT T p.2.2.2).length = T.length := List.length_map _
    refine ⟨cl, _, rfl, SqL.of hclD, by omega, fun se S1 hse => ?_⟩
    have kl := kinds_len (colT T p.2.2.2)
    have sE := Same.new (o := .set S1 (kindsL (colT T p.2.2.2)).length) hse
    have hseE : (upd HD se (.set S1 (kindsL (colT T p.2.2.2)).length)) se = some (.set S1 (kindsL (colT T p.2.2.2)).length) := upd_same
    generalize upd HD se (.set S1 (kindsL (colT T p.2.2.2)).length) = HE at sE hseE
    refine ⟨se, S1, _, rfl, hseE, by omega, ?_⟩
    have sCE := sD.trans sE
    have s5 := sBC.trans sCE
    have hrp5 := sCE _ _ htlC
    have hB5 := hBC.same sCE
    have hi := hB5.at_ _ ti ri eti S.ei
    have hj' := hB5.at_ _ tj rj etj S.ej
    refine ⟨_, rfl, _, rfl, tl, _, _, _, rfl, rfl, SqL.of hrp5, atI_nat eiv, _, rfl, ti, _, _, _, rfl, rfl, SqL.of hi, atI_nat (getD_int (by omega)), _, rfl, _, rfl, tl, _, _, _, rfl, rfl, SqL.of hrp5, atI_nat ejv, _, rfl, tj, _, _, _, rfl, rfl, SqL.of hj', atI_nat (getD_int (by omega)), (by show 2 ≤ sizeLine; decide), fun lp2 hlp2 => ?_⟩
    have s6 := Same.new (o := .lst [V.int (ri.getD p.2.2.2 0), V.int (rj.getD p.2.2.2 0)]) hlp2
    have hlp6 : (upd HE lp2 (.lst [V.int (ri.getD p.2.2.2 0), V.int (rj.getD p.2.2.2 0)])) lp2 = some (.lst [V.int (ri.getD p.2.2.2 0), V.int (rj.getD p.2.2.2 0)]) := upd_same
    refine ⟨lp2, [ri.getD p.2.2.2 0, rj.getD p.2.2.2 0], rfl, SqL.of hlp6, (by show 2 < 64; decide), fun l7 ns' hl7 hperm hpw => ?_⟩
    rw [sorted_two hperm hpw]
    have s7 := s6.trans (Same.new (o := .lst ([min (ri.getD p.2.2.2 0) (rj.getD p.2.2.2 0), max (ri.getD p.2.2.2 0) (rj.getD p.2.2.2 0)].map V.int)) hl7)
    refine ⟨l7, _, rfl, SqL.of upd_same, rfl, _, _, rfl, _, _, rfl, rfl, ?_⟩
    have s57 := s5.trans s7
    have hrp7 := s7 _ _ hrp5
    have hB7 := hB5.same s7
    generalize upd (upd HE lp2 (.lst [V.int (ri.getD p.2.2.2 0), V.int (rj.getD p.2.2.2 0)])) l7 (.lst ([min (ri.getD p.2.2.2 0) (rj.getD p.2.2.2 0), max (ri.getD p.2.2.2 0) (rj.getD p.2.2.2 0)].map V.int)) = H7 at s57 hrp7 hB7
    refine ⟨_, rfl, tl, rfl, ⟨_, SqL.of hrp7⟩, for_list (K := K) (xs := as.map V.ref) (fun k σ H' => (∃ v7, σ = [some (.ref tl), some (.ref rl), some (.ref t), some (vN p.1), some (vN p.2.1), some (vN p.2.2.1), some (vN p.2.2.2), v7, some (V.int ((kindsL (colT T p.2.2.2)).length : Int)), some (V.int (min (ri.getD p.2.2.2 0) (rj.getD p.2.2.2 0))), some (V.int (max (ri.getD p.2.2.2 0) (rj.getD p.2.2.2 0)))]) ∧ LB H' m as ((T.take k).map (evenRow p.2.2.2 (ri.getD p.2.2.2 0) (rj.getD p.2.2.2 0)) ++ T.drop k) ∧ Off as H7 H') ⟨⟨_, rfl⟩, hB7, Off.refl _ _⟩ (fun i σ H' _ h => SqL.of (h.2.2 _ _ hrp7 ntl)) ?_ ?_⟩
    · rintro k v σ H8 hv ⟨⟨v7, rfl⟩, hB8, o8⟩
      rw [List.getElem?_map] at hv
      cases ea : as[k]? with
      | none => rw [ea] at hv; cases hv
      | some a =>
        rw [ea] at hv
        obtain rfl := (Option.some.inj hv).symm
        obtain ⟨r, er, _, _⟩ := hB.get ea
        obtain ⟨x1, x2, x3⟩ := next_set (f := (evenRow p.2.2.2 (ri.getD p.2.2.2 0) (rj.getD p.2.2.2 0))) er
        have hra := hB8.at_ k a r ea x3
        have lra := hB.rl r (List.mem_of_getElem? er)
        refine ⟨_, rfl, _, rfl, a, _, _, _, rfl, rfl, SqL.of hra, atI_nat (getD_int (by omega)), _, rfl, r.getD p.2.2.2 0, max (ri.getD p.2.2.2 0) (rj.getD p.2.2.2 0), rfl, rfl, _, rfl, ite2 (fun hb => ?_) (fun hb => ?_)⟩
        · have ev : (evenRow p.2.2.2 (ri.getD p.2.2.2 0) (rj.getD p.2.2.2 0)) r = r.set p.2.2.2 (min (ri.getD p.2.2.2 0) (rj.getD p.2.2.2 0)) := by unfold evenRow; rw [if_pos (of_decide_eq_true hb)]
          refine ⟨_, rfl, _, rfl, _, rfl, a, _, _, p.2.2.2, rfl, rfl, hra, ?_, ?_⟩
          · unfold ixN
            rw [if_pos (Int.natCast_nonneg _), List.length_map, if_pos (by omega), Int.toNat_natCast]
          have er2 : ((r.map V.int).set p.2.2.2 (V.int (min (ri.getD p.2.2.2 0) (rj.getD p.2.2.2 0)))) = ((evenRow p.2.2.2 (ri.getD p.2.2.2 0) (rj.getD p.2.2.2 0)) r).map V.int := by rw [ev, List.map_set]
          rw [er2]
          have hB9 := hB8.set (r := (evenRow p.2.2.2 (ri.getD p.2.2.2 0) (rj.getD p.2.2.2 0)) r) ea (by rw [evenRow_len]; exact lra)
          rw [x1] at hB9
          exact ⟨⟨_, rfl⟩, hB9, o8.put (List.mem_of_getElem? ea)⟩
        · have ev : (evenRow p.2.2.2 (ri.getD p.2.2.2 0) (rj.getD p.2.2.2 0)) r = r := by unfold evenRow; rw [if_neg fun z => hb (decide_eq_true z)]
          rw [x2 ev] at hB8
          exact ⟨⟨_, rfl⟩, hB8, o8⟩
    rintro σ H8 ⟨⟨v7, rfl⟩, hB8, o8⟩
    rw [lam, List.take_length, List.drop_length, List.append_nil, ← estep] at hB8
    have o08 : Off as H H8 := fun c o e n => o8 c o (s57 c o e) n
    have htl8 := o08 _ _ htl ntl
    have lT8 : (stepT T p).length = T.length := by rw [estep, List.length_map]
    have lam8 : (as.map V.ref).length = (stepT T p).length := by rw [lT8]; exact lam
    refine ⟨_, rfl, _, rfl, min (ri.getD p.2.2.2 0) (rj.getD p.2.2.2 0), max (ri.getD p.2.2.2 0) (rj.getD p.2.2.2 0), rfl, rfl, _, rfl, ?_⟩
    rw [decide_eq_false (by omega)]
    refine iteT ?_
    refine ⟨(fun v z => by cases z), _, rfl, tl, rfl, ⟨_, SqL.of htl8⟩, lc_list (K := K) (xs := as.map V.ref) (fun k acc H' => H' = H8 ∧ acc = (((stepT T p).take k).map fun r => r.getD p.2.2.2 0).map V.int) (by rw [lam8, lT8]; omega) ⟨rfl, rfl⟩ (fun k acc H' hk h => ?_) (fun k v acc H' hv h => ?_) (fun acc H' h => ?_)⟩
    · obtain ⟨rfl, rfl⟩ := h
      exact ⟨SqL.of htl8, by rw [List.length_map, List.length_map]; exact List.length_take_le _ _⟩
    · obtain ⟨rfl, rfl⟩ := h
      rw [List.getElem?_map] at hv
      cases ea : as[k]? with
      | none => rw [ea] at hv; cases hv
      | some a =>
        rw [ea] at hv
        obtain rfl := (Option.some.inj hv).symm
        obtain ⟨r, er, hra, lra⟩ := hB8.get ea
        refine ⟨rfl, _, rfl, _, rfl, a, _, _, _, rfl, rfl, SqL.of hra, atI_nat (getD_int (by omega)), rfl, ?_⟩
        rw [List.take_succ, er, List.map_append, List.map_append]
        rfl
    obtain ⟨rfl, rfl⟩ := h
    rw [lam8, List.take_length]
    intro cl2 hcl2
    have sF := Same.new (o := .lst (((stepT T p).map fun r => r.getD p.2.2.2 0).map V.int)) hcl2
    have hclF : (upd H' cl2 (.lst (((stepT T p).map fun r => r.getD p.2.2.2 0).map V.int))) cl2 = some (.lst ((colT (stepT T p) p.2.2.2).map V.int)) := upd_same
    generalize upd H' cl2 (.lst (((stepT T p).map fun r => r.getD p.2.2.2 0).map V.int)) = HF at sF hclF
    have lcol2 : (colT (stepT T p) p.2.2.2).length = (stepT T p).length := List.length_map _
    refine ⟨cl2, _, rfl, SqL.of hclF, by omega, fun se2 S2 hse2 => ?_⟩
    have kl2 := kinds_len (colT (stepT T p) p.2.2.2)
    have sG := sF.trans (Same.new (o := .set S2 (kindsL (colT (stepT T p) p.2.2.2)).length) hse2)
    refine ⟨se2, S2, _, rfl, upd_same, by omega, ?_⟩
    refine ⟨_, rfl, (kindsL (colT T p.2.2.2)).length, 1, rfl, rfl, by omega, (kindsL (colT (stepT T p) p.2.2.2)).length, (kindsL (colT T p.2.2.2)).length - 1, rfl, rfl, ?_⟩
    show Q (.bl (decide ((kindsL (colT (stepT T p) p.2.2.2)).length = (kindsL (colT T p.2.2.2)).length - 1))) _
    rw [decide_eq_true (by omega)]
    exact q _ (fun c o e n => sG c o (o08 c o e n)) (hB8.same sG)
end
end Own

namespace Own
open PySem L2
section
variable {P : Program} {w : World} {K : PySem.W.Frag} {mg : Str → Option Value} {base : Heap}
seal PySem.wpAny
def spLaw (K : PySem.W.Frag) : Sp := fun vs H Q _ => ∃ (a : Addr) (ns : List Int), vs = [.ref a] ∧ SqF K H a ns ∧ ns.length ≤ 63 ∧ ∀ H', Q (.bl true) H'
abbrev sLaw : Stmt := top 38
theorem scLaw : FnScope ["_law_script", "_law_state", "_law_many", "_law_parts_here", "_law_rules_here", "_law_rows", "_law_steps", "_law_rule", "_law_own", "_law_now", "_law_step", "_law_k"] ["_law_script"] (defScope sLaw) := ⟨rfl, rfl, rfl, by decide +kernel, rfl, by decide +kernel, by decide +kernel⟩

theorem ok_law {f fT fPA fRU fFL fZ fFI fDN fL fB : Addr} {fd fdT fdPA fdRU fdFL fdZ fdFI fdDN fdL fdB : FuncData} (F : Fun K "law" "law" sLaw f fd) (GT : FnOk P w K mg base CX0 1 fT fdT ["_law_state", "_law_most"] (spTakeF K)) (mT : mg "_law_take" = some (.ref fT)) (kT : PySem.W.keepIn K (.ref fT) = true) (bT : Binds K fdT ["_law_state", "_law_most"] []) (GPA : FnOk P w K mg base CX0 3 fPA fdPA ["_law_state", "_law_many", "_law_most"] (spParts53 K)) (mPA : mg "_law_parts" = some (.ref fPA)) (kPA : PySem.W.keepIn K (.ref fPA) = true) (bPA : Binds K fdPA ["_law_state", "_law_many", "_law_most"] []) (GRU : FnOk P w K mg base CX0 3 fRU fdRU ["_law_state", "_law_many"] (spTRules K)) (mRU : mg "_law_rules" = some (.ref fRU)) (kRU : PySem.W.keepIn K (.ref fRU) = true) (bRU : Binds K fdRU ["_law_state", "_law_many"] []) (GFL : FnOk P w K mg base CX0 6 fFL fdFL ["many", "rules", "parts"] (spFilled K)) (mFL : mg "filled" = some (.ref fFL)) (kFL : PySem.W.keepIn K (.ref fFL) = true) (bFL : Binds K fdFL ["many", "rules", "parts"] []) (GZ : FnOk P w K mg base CX0 9 fZ fdZ ["book", "rules"] (spKeeps K)) (mZ : mg "keeps" = some (.ref fZ)) (kZ : PySem.W.keepIn K (.ref fZ) = true) (bZ : Binds K fdZ ["book", "rules"] []) (GFI : FnOk P w K mg base CX0 1 fFI fdFI ["_law_many", "_law_parts_here"] (spFirst55 K)) (mFI : mg "_law_first" = some (.ref fFI)) (kFI : PySem.W.keepIn K (.ref fFI) = true) (bFI : Binds K fdFI ["_law_many", "_law_parts_here"] []) (GDN : FnOk P w K mg base CX0 4 fDN fdDN ["_law_rows", "_law_rules_here", "_law_step"] (spDone55 K)) (mDN : mg "_law_done" = some (.ref fDN)) (kDN : PySem.W.keepIn K (.ref fDN) = true) (bDN : Binds K fdDN ["_law_rows", "_law_rules_here", "_law_step"] []) (GL : FnOk P w K mg base CX0 3 fL fdL ["one", "other", "some"] (spAlike K)) (mL : mg "alike" = some (.ref fL)) (kL : PySem.W.keepIn K (.ref fL) = true) (bL : Binds K fdL ["one", "other", "some"] []) (GB : FnOk P w K mg base CX0 8 fB fdB ["book", "rule"] (spBreach K)) (mB : mg "breach" = some (.ref fB)) (kB : PySem.W.keepIn K (.ref fB) = true) (bB : Binds K fdB ["book", "rule"] []) (zlen : mg "len" = none) (ztuple : mg "tuple" = none) (zrange : mg "range" = none) : FnOk P w K mg base CX0 10 f fd ["_law_script"] (spLaw K) := by
  refine F.ok scLaw (fun vs H Q E h => ?_) (fun cdv A outer s H vs Q E hr h => ?_)
  · obtain ⟨a, ns, rfl, _⟩ := h
    rfl
  · obtain ⟨a, ns, rfl, hS, hlen, q⟩ := h
    have nd := scLaw.nd
    have hr1 : Room 1 _ := hr.mono (by decide)
    have hr3 : Room 3 _ := hr.mono (by decide)
    have hr4 : Room 4 _ := hr.mono (by decide)
    have hr6 : Room 6 _ := hr.mono (by decide)
    have hr8 : Room 8 _ := hr.mono (by decide)
    have hr9 : Room 9 _ := hr.mono (by decide)
    refine ⟨_, (pss_cons (ps_set (i := 1) nd rfl (Or.inl rfl) (pe_lst (pa_cons (pv 0) (pa_cons pe_int pa_nil))))
      (pss_cons (ps_set (i := 2) nd rfl (Or.inl rfl) (pe_op op_addN pe_int (pe_call GT hr1 rfl mT kT bT .nil pass0 (pa_cons (pv 1) (pa_cons pe_int pa_nil)))))
      (pss_cons (ps_set (i := 3) nd rfl (Or.inl rfl) (pe_call GPA hr3 rfl mPA kPA bPA .nil pass0 (pa_cons (pv 1) (pa_cons (pv 2) (pa_cons (pe_ix (ix_listK (K := K) rfl) (pe_lst (pa_cons pe_int (pa_cons pe_int pa_nil))) (pe_call GT hr1 rfl mT kT bT .nil pass0 (pa_cons (pv 1) (pa_cons pe_int pa_nil))) (fun _ _ => rfl)) pa_nil)))))
      (pss_cons (ps_set (i := 4) nd rfl (Or.inl rfl) (pe_call GRU hr3 rfl mRU kRU bRU .nil pass0 (pa_cons (pv 1) (pa_cons (pv 2) pa_nil))))
      (pss_cons (ps_asg (pe_call GFL hr6 rfl mFL kFL bFL .nil pass0 (pa_cons (pv 2) (pa_cons (pv 4) (pa_cons (pv 3) pa_nil)))) (pg_tup rfl (pgs_cons (pg_name (i := 5) nd rfl (Or.inl rfl)) (pgs_cons (pg_name (i := 6) nd rfl (Or.inl rfl)) pgs_nil))))
      (pss_cons (ps_hide 7 (ps_comp (i := 8) (xs := ["_law_rule"]) (cs ["_law_script", "_law_state", "_law_many", "_law_parts_here", "_law_rules_here", "_law_rows", "_law_steps", "", "_law_own", "_law_now", "_law_step", "_law_k"] (defScope sLaw) rfl rfl (by decide +kernel)) rfl (show (["_law_script", "_law_state", "_law_many", "_law_parts_here", "_law_rules_here", "_law_rows", "_law_steps", "", "_law_own", "_law_now", "_law_step", "_law_k"] : List Str).Nodup by decide +kernel) rfl rfl (pi_listK (K := K) rfl (pv 4)) (fun _ _ _ => pg_name (i := 0) (show (["_law_rule", "_law_script", "_law_state", "_law_many", "_law_parts_here", "_law_rules_here", "_law_rows", "_law_steps", "", "_law_own", "_law_now", "_law_step", "_law_k"] : List Str).Nodup by decide +kernel) rfl (Or.inl rfl)) (fun _ _ _ => (pts_one (pt_cmpR op_eq (pe_ix (ix_tupK (K := K) rfl) (pv 0) pe_int (fun _ _ => rfl)) pe_str (nomark _)))) (fun _ _ _ => (pv 0))))
      (pss_cons (ps_if (PW.pt (pw_or (pt_not (pt_val (pe_call GZ hr9 rfl mZ kZ bZ .nil pass0 (pa_cons (pv 5) (pa_cons (pv 8) pa_nil))))) (pw_or (pt_cmpR op_neN (pe_callB (call_lenK (K := K) rfl) (by rfl) zlen PySem.boot_len (pa_cons (pv 5) pa_nil)) (pe_callB (call_lenK (K := K) rfl) (by rfl) zlen PySem.boot_len (pa_cons (pv 3) pa_nil)) (nomark _)) (pw_or1 (pt_cmpR op_gtN (pe_callB (call_lenK (K := K) rfl) (by rfl) zlen PySem.boot_len (pa_cons (pv 6) pa_nil)) (pe_op op_mulN (pv 2) (pe_callB (call_lenK (K := K) rfl) (by rfl) zlen PySem.boot_len (pa_cons (pv 3) pa_nil))) (nomark _)))))) (pss_one (ps_ret pe_bl)) pss_nil)
      (pss_cons (ps_set (i := 9) nd rfl (Or.inl rfl) (pe_call GFI hr1 rfl mFI kFI bFI .nil pass0 (pa_cons (pv 2) (pa_cons (pv 3) pa_nil))))
      (pss_cons (ps_for PassesOwn.never rfl (pi_listK (K := K) rfl (pv 6)) (pg_name (i := 10) nd rfl (Or.inl rfl)) (pss_one (ps_if (pt_not (pt_val (pe_call GDN hr4 rfl mDN kDN bDN .nil pass0 (pa_cons (pv 9) (pa_cons (pv 4) (pa_cons (pv 10) pa_nil)))))) (pss_one (ps_ret pe_bl)) pss_nil)))
      (pss_cons (ps_if (pt_cmpR (op_neD (K := K) rfl hr.units) (pe_comp (xs := ["_law_row"]) (cs ["_law_script", "_law_state", "_law_many", "_law_parts_here", "_law_rules_here", "_law_rows", "_law_steps", "_law_rule", "_law_own", "_law_now", "_law_step", "_law_k"] (defScope sLaw) rfl rfl (by decide +kernel)) rfl (pi_listK (K := K) rfl (pv 9)) (fun _ _ _ => pg_name (i := 0) (show (["_law_row", "_law_script", "_law_state", "_law_many", "_law_parts_here", "_law_rules_here", "_law_rows", "_law_steps", "_law_rule", "_law_own", "_law_now", "_law_step", "_law_k"] : List Str).Nodup by decide +kernel) rfl (Or.inl rfl)) (fun _ _ _ => pts_nil) (fun _ _ _ => (pe_callTy (call_tupleK (K := K) rfl) (by rfl) ztuple PyProof.Rows.boot_tuple (pa_cons (pv 0) pa_nil)))) (pv 5) (nomark _)) (pss_one (ps_ret pe_bl)) pss_nil)
      (pss_cons (ps_for PassesOwn.never rfl (pi_range1 rfl zrange (pa_cons (pe_callB (call_lenK (K := K) rfl) (by rfl) zlen PySem.boot_len (pa_cons (pv 3) pa_nil)) pa_nil)) (pg_name (i := 11) nd rfl (Or.inl rfl)) (pss_one (ps_if (pt_not (pt_val (pe_call GL hr3 rfl mL kL bL .nil pass0 (pa_cons (pe_ix (ix_listK (K := K) rfl) (pv 5) (pv 11) (fun _ _ => rfl)) (pa_cons (pe_callTy (call_tupleK (K := K) rfl) (by rfl) ztuple PyProof.Rows.boot_tuple (pa_cons (pe_op op_rep (pe_lst (pa_cons pe_int pa_nil)) (pv 2)) pa_nil)) (pa_cons (pe_ix (ix_listK (K := K) rfl) (pv 3) (pv 11) (fun _ _ => rfl)) pa_nil)))))) (pss_one (ps_ret pe_bl)) pss_nil)))
      (pss_cons (ps_if (pt_cmpR (op_eqD (K := K) rfl hr.units) (pv 8) (pe_lst pa_nil) (nomark _)) (pss_one (ps_ret (pe_cmpR (op_eqD (K := K) rfl hr.units) (pv 6) (pe_lst pa_nil) (nomark _)))) pss_nil)
      (pss_cons (ps_set (i := 7) nd rfl (Or.inl rfl) (pe_ix (ix_listK (K := K) rfl) (pv 8) (pe_call GT hr1 rfl mT kT bT .nil pass0 (pa_cons (pv 1) (pa_cons (pe_callB (call_lenK (K := K) rfl) (by rfl) zlen PySem.boot_len (pa_cons (pv 8) pa_nil)) pa_nil))) (fun _ _ => rfl)))
      (pss_cons (ps_if (PW.pt (pw_and (pt_cmpR op_ltN (pe_callB (call_lenK (K := K) rfl) (by rfl) zlen PySem.boot_len (pa_cons (pv 4) pa_nil)) pe_int (nomark _)) (pw_and1 (pt_cmpR (op_neD (K := K) rfl hr.units) (pe_call GFL hr6 rfl mFL kFL bFL .nil pass0 (pa_cons (pv 2) (pa_cons (pe_op op_cat (pv 4) (pe_lst (pa_cons (pv 7) pa_nil))) (pa_cons (pv 3) pa_nil)))) (pe_tup (pa_cons (pv 5) (pa_cons (pv 6) pa_nil))) (nomark _))))) (pss_one (ps_ret pe_bl)) pss_nil)
      (pss_one (ps_ret (pe_cmpR op_isN (pe_call GB hr8 rfl mB kB bB .nil pass0 (pa_cons (pv 5) (pa_cons (pv 7) pa_nil))) pe_non (nomark _)))))))))))))))))), ?_⟩
    refine ⟨_, rfl, (by show 2 ≤ sizeLine; decide), fun st hst => ?_⟩
    have S0 := STF.start hS hst
    generalize upd H st (.lst [.ref a, .int 0]) = H0 at S0
    refine ⟨_, rfl, st, ns, 0, 7, rfl, S0, by omega, hlen, by decide, fun r1 H1 a1 b1 S1 B1 => ?_⟩
    obtain ⟨n1, rfl, hn1⟩ := nat_of (n := 7) a1 b1
    refine ⟨1, n1, rfl, rfl, ?_⟩
    have m1 : 1 ≤ 1 + n1 := by omega
    have m7 : 1 + n1 ≤ 7 := by omega
    dsimp only
    generalize 1 + n1 = m at m1 m7
    have pw0 : 0 < 2 ^ m := Nat.two_pow_pos m
    have p7 := pow7 m7
    refine ⟨_, rfl, _, rfl, (by show 2 ≤ sizeLine; decide), fun l hl1 => ?_⟩
    obtain ⟨_, hls⟩ := stf_fresh S1 (But.refl _ _) hl1
    have S1' : STF K (upd H1 l (.lst [vN 4, vN 10])) st ns 1 := S1.new hl1
    have hlA : (upd H1 l (.lst [vN 4, vN 10])) l = some (.lst [vN 4, vN 10]) := upd_same
    refine ⟨_, rfl, st, ns, 1, 2, rfl, S1', by omega, hlen, by decide, fun r2 H2 a2 b2 S2 B2 => ?_⟩
    obtain ⟨n2, rfl, hn2⟩ := nat_of (n := 2) a2 b2
    have hl2 := B2 _ _ hlA hls
    obtain ⟨w, ew, hw0, hw⟩ : ∃ w : Nat, ([vN 4, vN 10] : List V)[n2]? = some (vN w) ∧ 1 ≤ w ∧ w ≤ 10 := by
      match n2, hn2 with
      | 0, _ => exact ⟨4, rfl, by decide, by decide⟩
      | 1, _ => exact ⟨10, rfl, by decide, by decide⟩
    refine ⟨l, _, _, _, rfl, rfl, SqL.of hl2, atI_nat ew, st, ns, 2, m, w, rfl, S2, by omega, hlen, m1, m7, hw0, hw, fun ps pp k2 H3 hps lp1 lp10 hfull hk2 S3 B3 hpp0 npp hpp => ?_⟩
    refine ⟨_, rfl, _, rfl, st, ns, k2, m, rfl, S3, by omega, hlen, m1, m7, fun rs rp k3 H4 R lrs hk3 => ?_⟩
    have hpp4 := R.B _ _ hpp npp
    have hrp4 := R.hg
    have hRs4 := R.at_
    have S4 := R.S
    have nrp := R.hgs
    have hrules : Rules m (rs.map Rl.d) := fun r hr' => by
      obtain ⟨r', h1, rfl⟩ := List.mem_map.mp hr'
      exact (hRs4 r' h1).2
    clear R
    refine ⟨_, rfl, _, rfl, _, rfl, m, rp, pp, rs, ps, rfl, m1, m7, SqL.of hrp4, hRs4, by omega, SqL.of hpp4, lp10, hfull, fun t tl sl ts sw H5 s5 ht htl0 htl hT hsl0 hsl hst2 esw lsw ntl => ?_⟩
    refine ⟨t, _, rfl, SqT.of ht, rfl, _, _, rfl, _, _, rfl, rfl, ?_⟩
    have S5 := S4.same s5
    have hpp5 := s5 _ _ hpp4
    have hrp5 := s5 _ _ hrp4
    have hRs5 := hRs4.same s5
    have okT : ∀ {x y : Nat}, (true, x, y) ∈ rs.map Rl.d → SetOk (ts.zip (runT (rs.map Rl.d) 1000 (begT m ps)).1) x y := fun h => run_setok m7 hrules hps lp10 h
    have zr : ∀ {i p : Nat} {r : List Int}, ps[i]? = some p → (runT (rs.map Rl.d) 1000 (begT m ps)).1[i]? = some r → alikeL r (List.replicate m 0) p = true := fun h1 h2 => run_zero m7 hrules hps lp10 h1 h2
    have cnt := run_count m7 hrules 1000 (begT m ps) (begT_at (rs := rs.map Rl.d) lp10 m7).rl
    have ks := kSum_le m (begT m ps)
    have lbeg := begT_len m ps
    rw [lbeg] at ks
    obtain ⟨_, lnT, _⟩ := run_mod m7 hrules hps lp10
    have fin := run_fold (rs := rs.map Rl.d) 1000 (begT m ps)
    have each := run_at (rs := rs.map Rl.d) 1000 (begT m ps)
    have agn : ∀ {r : RD}, r ∈ rs.map Rl.d → runT (rs.map Rl.d ++ [r]) 1000 (begT m ps) = runT (rs.map Rl.d) 1000 (begT m ps) := fun h => run_again h 1000 _
    have nost : (∀ r ∈ rs.map Rl.d, r.1 = false) → (runT (rs.map Rl.d) 1000 (begT m ps)).2 = [] := fun h => run_none (fun T => first_own h) 1000 _
    obtain ⟨RT, hRT⟩ : ∃ RT, RT = runT (rs.map Rl.d) 1000 (begT m ps) := ⟨_, rfl⟩
    rw [← hRT] at hT esw cnt lnT fin each nost
    rw [← hRT] at okT
    have lwm : (sw.map fun w => V.ref w.1).length = RT.2.length := by rw [List.length_map, ← esw, List.length_map]
    have ltm : (ts.map V.ref).length = ps.length := by rw [List.length_map, hT.len, lnT]
    have lpm : (ps.map vN).length = ps.length := List.length_map ..
    -- the settling rules
    refine ⟨(fun v z => by cases z), _, rfl, rp, rfl, ⟨_, SqL.of hrp5⟩, lc_list (K := K) (xs := rs.map fun (r : Rl) => V.ref r.r) (fun j acc H3 => H3 = H5 ∧ acc = ((rs.take j).filter fun r => r.st).map fun (r : Rl) => V.ref r.r) (by rw [List.length_map]; omega) ⟨rfl, rfl⟩ (fun j acc H3 hj h => ?_) (fun j v acc H3 hx h => ?_) (fun acc H3 h => ?_)⟩
    · obtain ⟨rfl, rfl⟩ := h
      exact ⟨SqL.of hrp5, by rw [List.length_map]; exact Nat.le_trans (List.length_filter_le _ _) (List.length_take_le _ _)⟩
    · obtain ⟨rfl, rfl⟩ := h
      rw [List.getElem?_map] at hx
      cases er : rs[j]? with
      | none => rw [er] at hx; cases hx
      | some r =>
        rw [er] at hx
        obtain rfl := (Option.some.inj hx).symm
        obtain ⟨r1, _, _⟩ := hRs5 r (List.mem_of_getElem? er)
        refine ⟨rfl, _, rfl, r.r, _, _, _, rfl, rfl, SqT.of r1, atI_nat (j := 0) rfl, rfl, _, rfl, ?_⟩
        rw [List.take_succ, er]
        cases est : r.st with
        | false =>
          refine ite2 (fun hc => ?_) (fun _ => ⟨rfl, ?_⟩)
          · exact absurd (of_decide_eq_true hc) (by intro z; injection z with z; revert z; decide)
          · rw [show (some r).toList = [r] from rfl, List.filter_append, List.filter_cons_of_neg (by show ¬ r.st = true; rw [est]; exact Bool.false_ne_true), List.filter_nil, List.append_nil]
        | true =>
          refine ite2 (fun _ => ⟨_, rfl, rfl, ?_⟩) (fun hc => absurd (decide_eq_true rfl) hc)
          rw [show (some r).toList = [r] from rfl, List.filter_append, List.filter_cons_of_pos (by exact est), List.filter_nil, List.map_append]; rfl
    obtain ⟨rfl, rfl⟩ := h
    rw [List.length_map, List.take_length]
    intro ol hol
    refine ⟨(fun v z => by cases z), ?_⟩
    obtain ⟨os, eos⟩ : ∃ os, os = rs.filter fun r => r.st := ⟨_, rfl⟩
    rw [← eos]
    have los : os.length ≤ rs.length := by rw [eos]; exact List.length_filter_le _ _
    have ost : ∀ r ∈ os, r.st = true := fun r hr' => by rw [eos] at hr'; exact (List.mem_filter.mp hr').2
    have osub : ∀ r ∈ os, r ∈ rs := fun r hr' => by rw [eos] at hr'; exact (List.mem_filter.mp hr').1
    have sO := Same.new (o := .lst (os.map fun (r : Rl) => V.ref r.r)) hol
    have holO : (upd H3 ol (.lst (os.map fun (r : Rl) => V.ref r.r))) ol = some (.lst (os.map fun (r : Rl) => V.ref r.r)) := upd_same
    generalize upd H3 ol (.lst (os.map fun (r : Rl) => V.ref r.r)) = H6 at sO holO
    have S6 := S5.same sO
    have hRs6 := hRs5.same sO
    have hT6 := hT.same sO
    have htl6 := sO _ _ htl
    have hsl6 := sO _ _ hsl
    have hst6 := hst2.same sO
    have hpp6 := sO _ _ hpp5
    have hrp6 := sO _ _ hrp5
    have ook : ∀ r ∈ os, ROk (ts.zip RT.1) r.st r.x r.y := fun r hr' => by
      rw [ost r hr']
      refine okT (List.mem_map.mpr ⟨r, osub r hr', ?_⟩)
      show (r.st, r.x, r.y) = _
      rw [ost r hr']
    have book : ∀ {HX : Hp}, Same H6 HX → BookAt K HX tl (ts.zip RT.1) m := fun sX => by
      have hTX := hT6.same sX
      obtain ⟨z1, _⟩ := hTX.zip
      refine ⟨by rw [zip_refs hTX.len]; exact SqL.of (sX _ _ htl6), fun w hw => ⟨z1 w hw, hTX.rl _ (List.of_mem_zip (a := w.1) (b := w.2) hw).2⟩, m1, m7, ?_⟩
      rw [List.length_zip, hTX.len, lnT]
      omega
    refine ⟨_, rfl, _, rfl, tl, ol, ts.zip RT.1, os, m, rfl, book (Same.refl _), SqL.of holO, by omega, (fun r hr' => hRs6 r (osub r hr')), fun k H7 s7 hk => ⟨_, rfl, ?_⟩⟩
    rw [hk.mpr ook]
    refine iteF ?_
    refine ⟨_, rfl, tl, _, rfl, .inl (SqL.of (s7 _ _ htl6)), _, rfl, pp, _, rfl, .inl (SqL.of (s7 _ _ hpp6)), (ts.map V.ref).length, (ps.map vN).length, rfl, rfl, _, rfl, ?_⟩
    rw [ltm, lpm, decide_eq_true rfl]
    refine iteF ?_
    refine ⟨_, rfl, sl, _, rfl, .inl (SqL.of (s7 _ _ hsl6)), _, rfl, _, rfl, pp, _, rfl, .inl (SqL.of (s7 _ _ hpp6)), m, (ps.map vN).length, rfl, rfl, (by show m < 2 ^ 64; omega), (sw.map fun w => V.ref w.1).length, m * (ps.map vN).length, rfl, rfl, _, rfl, ?_⟩
    rw [lwm, lpm, decide_eq_false (by omega)]
    refine iteF ?_
    -- the law's own table, step by step
    refine ⟨_, rfl, _, rfl, m, pp, ps, rfl, m1, m7, SqL.of (s7 _ _ hpp6), lp10, hps, fun np as H8 s8 hnp0 hnp hB hno nnp => ?_⟩
    have s78 := s7.trans s8
    have hsl8 := s78 _ _ hsl6
    have las : as.length = ps.length := by rw [hB.len, lbeg]
    refine ⟨_, rfl, sl, rfl, ⟨_, SqL.of hsl8⟩, for_list (K := K) (xs := sw.map fun w => V.ref w.1) (fun i σ H' => (∃ v10, σ = [some (.ref a), some (.ref st), some (vN m), some (.ref pp), some (.ref rp), some (.ref tl), some (.ref sl), none, some (.ref ol), some (.ref np), v10, none]) ∧ Same H7 H' ∧ H' np = some (.lst (as.map V.ref)) ∧ LB H' m as ((RT.2.take i).foldl stepT (begT m ps))) ⟨⟨_, rfl⟩, s8, hnp, hB⟩ (fun i σ H' _ h => SqL.of ((s7.trans h.2.1) _ _ hsl6)) ?_ ?_⟩
    · rintro i v σ H9 hv ⟨⟨v10, rfl⟩, s9, hnp9, hB9⟩
      rw [List.getElem?_map] at hv
      cases ew : sw[i]? with
      | none => rw [ew] at hv; cases hv
      | some w' =>
        rw [ew] at hv
        obtain rfl := (Option.some.inj hv).symm
        have s79 := s7.trans s9
        have epi : RT.2[i]? = some w'.2 := by rw [← esw, List.getElem?_map, ew]; rfl
        have et : RT.2.take (i + 1) = RT.2.take i ++ [w'.2] := by rw [List.take_succ, epi]; rfl
        refine ⟨_, rfl, _, rfl, _, rfl, np, rp, w'.1, rs, as, (RT.2.take i).foldl stepT (begT m ps), m, w'.2, rfl, SqL.of (s79 _ _ hrp6), hRs6.same s79, by omega, hnp9, hB9, nnp, m7, by rw [fold_len, lbeg]; omega, (s79 _ _ (hst6 w' (List.mem_of_getElem? ew))), each i w'.2 epi, fun HA oA hBA => ⟨_, rfl, ?_⟩⟩
        refine iteF ?_
        refine ⟨⟨_, rfl⟩, oA.same s9 hno, oA _ _ hnp9 nnp, ?_⟩
        rw [et, List.foldl_append]
        exact hBA
    rintro σ H9 ⟨⟨v10, rfl⟩, s9, hnp9, hB9⟩
    rw [lwm, List.take_length, fin] at hB9
    have s69 := s7.trans s9
    have lam : (as.map V.ref).length = RT.1.length := by rw [List.length_map]; exact hB9.len
    -- its rows are the table's
    refine ⟨_, rfl, np, rfl, ⟨_, SqL.of hnp9⟩, lc_list (K := K) (xs := as.map V.ref) (fun k acc H' => ∃ ts2 : List Addr, acc = ts2.map V.ref ∧ Same H9 H' ∧ TB H' m ts2 (RT.1.take k)) (by rw [lam, lnT]; omega) ⟨[], rfl, Same.refl _, TB.nil _ _⟩ (fun k acc H' hk h => ?_) (fun k v acc H' hv h => ?_) (fun acc H' h => ?_)⟩
    · obtain ⟨ts2, rfl, s10, hT2⟩ := h
      refine ⟨s10.seq (SqL.of hnp9), ?_⟩
      rw [List.length_map, hT2.len]
      exact List.length_take_le _ _
    · obtain ⟨ts2, rfl, s10, hT2⟩ := h
      rw [List.getElem?_map] at hv
      cases ea : as[k]? with
      | none => rw [ea] at hv; cases hv
      | some a' =>
        rw [ea] at hv
        obtain rfl := (Option.some.inj hv).symm
        obtain ⟨r, er, hra, lra⟩ := hB9.get ea
        refine ⟨rfl, _, rfl, a', _, rfl, .inl ⟨SqL.of (s10 _ _ hra), fun tn htn => ?_⟩⟩
        have sn := Same.new (o := .tup (r.map V.int)) htn
        refine ⟨ts2 ++ [tn], by rw [List.map_append]; rfl, s10.trans sn, ?_⟩
        rw [List.take_succ, er]
        exact (hT2.same sn).snoc upd_same lra
    obtain ⟨ts2, rfl, s10, hT2⟩ := h
    rw [lam, List.take_length] at hT2
    intro n2 hn2
    have sN := Same.new (o := .lst (ts2.map V.ref)) hn2
    have hn2N : (upd H' n2 (.lst (ts2.map V.ref))) n2 = some (.lst (ts2.map V.ref)) := upd_same
    have hT2N := hT2.same sN
    have s9N := s10.trans sN
    generalize upd H' n2 (.lst (ts2.map V.ref)) = HB at sN hn2N hT2N s9N
    have s6B := s69.trans s9N
    obtain ⟨e1, e2, e3⟩ := rows_eq RT.1
    refine ⟨_, rfl, _, _, DV.lst (SqL.of hn2N) (rows_dvs hT2N.len hT2N.at_), DV.lst (SqL.of (s6B _ _ htl6)) (rows_dvs (hT6.same s6B).len (hT6.same s6B).at_), e3, e3, e2, _, rfl, ?_⟩
    rw [if_pos rfl, e1]
    refine iteF ?_
    -- noughts at each part
    refine ⟨_, rfl, pp, _, rfl, .inl (SqL.of (s6B _ _ hpp6)), (((ps.map vN).length : Nat) : Int), rfl, by omega, by omega, for_rangeN (n := (ps.map vN).length) (fun i σ H' => (∃ v11 : Option V, σ = [some (.ref a), some (.ref st), some (vN m), some (.ref pp), some (.ref rp), some (.ref tl), some (.ref sl), none, some (.ref ol), some (.ref np), v10, v11]) ∧ Same HB H') ⟨⟨_, rfl⟩, Same.refl _⟩ (fun i σ HC hi h => ?_) (fun σ HC h => ?_)⟩
    · obtain ⟨⟨v11, rfl⟩, sC⟩ := h
      rw [lpm] at hi
      have s6C := s6B.trans sC
      have ep : ps[i]? = some ps[i] := List.getElem?_eq_getElem hi
      have epv : (ps.map vN)[i]? = some (vN ps[i]) := by rw [List.getElem?_map, ep]; rfl
      have hpi := hps _ (List.mem_of_getElem? ep)
      have hTC := hT6.same s6C
      obtain ⟨ti, eti⟩ : ∃ t, ts[i]? = some t := ⟨_, List.getElem?_eq_getElem (by rw [hTC.len, lnT]; exact hi)⟩
      obtain ⟨r, er, hr', lr'⟩ := hTC.get eti
      have etv : (ts.map V.ref)[i]? = some (V.ref ti) := by rw [List.getElem?_map, eti]; rfl
      refine ⟨_, rfl, _, rfl, tl, _, _, _, rfl, rfl, SqL.of (s6C _ _ htl6), atI_nat etv, (by show 1 ≤ sizeLine; decide), fun lz hlz => ?_⟩
      have sz := Same.new (o := .lst [V.int 0]) hlz
      refine ⟨_, rfl, lz, (m : Int), [V.int 0], rfl, rfl, upd_same, by omega, by omega, Nat.le_of_lt (small1000 (by rw [Int.toNat_natCast]; show 1 * m ≤ 1000; omega)), fun lq hlq => ?_⟩
      have erep : (List.replicate ((m : Int)).toNat [V.int 0]).flatten = (List.replicate m (0 : Int)).map V.int := by rw [Int.toNat_natCast, List.flatten_replicate_singleton, List.map_replicate]
      rw [erep]
      have sq2 := sz.trans (Same.new (o := .lst ((List.replicate m (0 : Int)).map V.int)) hlq)
      refine ⟨lq, _, rfl, .inl ⟨SqL.of upd_same, fun tz htz => ?_⟩⟩
      have s3' := sq2.trans (Same.new (o := .tup ((List.replicate m (0 : Int)).map V.int)) htz)
      have htz2 : (upd (upd (upd HC lz (.lst [V.int 0])) lq (.lst ((List.replicate m (0 : Int)).map V.int))) tz (.tup ((List.replicate m (0 : Int)).map V.int))) tz = some (.tup ((List.replicate m (0 : Int)).map V.int)) := upd_same
      generalize upd (upd (upd HC lz (.lst [V.int 0])) lq (.lst ((List.replicate m (0 : Int)).map V.int))) tz (.tup ((List.replicate m (0 : Int)).map V.int)) = HD at s3' htz2
      refine ⟨_, rfl, _, rfl, pp, _, _, _, rfl, rfl, SqL.of ((s6C.trans s3') _ _ hpp6), atI_nat epv, ti, tz, r, List.replicate m 0, ps[i], rfl, SqT.of (s3' _ _ hr'), SqT.of htz2, Nat.lt_of_lt_of_le hpi (Nat.pow_le_pow_right (by decide) (by omega)), (fun c hc' => ?_), fun HE sE => ⟨_, rfl, ?_⟩⟩
      · have := hasb_lt hpi ((cols_mem (by omega) c).mp hc')
        rw [lr', List.length_replicate]
        exact ⟨this, this⟩
      rw [zr ep (by rw [← hRT]; exact er)]
      refine iteF ?_
      exact ⟨⟨_, rfl⟩, (sC.trans s3').trans sE⟩
    obtain ⟨⟨v11, rfl⟩, sC⟩ := h
    have s6C := s6B.trans sC
    -- no settling rule
    refine ⟨_, rfl, Nat.zero_le _, fun el hel => ?_⟩
    have sE := Same.new (o := .lst []) hel
    have s6E := s6C.trans sE
    refine ⟨.list ((os.map Rl.d).map dR), .list (([] : List RD).map dR), DV.lst (SqL.of (s6E _ _ holO)) (rules_dv fun r hr' => (hRs6.same s6E) r (osub r hr')), DV.lst (SqL.of upd_same) .nil, shaped_map canLay_dR depth_dR _, shaped_map canLay_dR depth_dR _, noMix_list noMix_dR _ _, _, rfl, ?_⟩
    rw [if_neg Bool.false_ne_true, same_list same_dR]
    generalize upd HC el (.lst []) = HF at sE s6E
    refine ite2 (fun hb => ?_) (fun hb => ?_)
    · have os0 : os = [] := List.map_eq_nil_iff.mp (of_decide_eq_true hb)
      have no : ∀ r ∈ rs.map Rl.d, r.1 = false := fun d hd => by
        obtain ⟨r, hr', rfl⟩ := List.mem_map.mp hd
        cases e : r.st with
        | false => exact e
        | true =>
          have : r ∈ os := by rw [eos]; exact List.mem_filter.mpr ⟨hr', e⟩
          rw [os0] at this
          exact absurd this List.not_mem_nil
      have sw0 : sw = [] := List.map_eq_nil_iff.mp (esw.trans (nost no))
      have hslF := s6E _ _ hsl6
      rw [sw0] at hslF
      refine ⟨_, rfl, Nat.zero_le _, fun el2 hel2 => ?_⟩
      refine ⟨.list (([] : List RD).map dR), .list (([] : List RD).map dR), DV.lst (SqL.of ((Same.new hel2) _ _ hslF)) .nil, DV.lst (SqL.of upd_same) .nil, shaped_map canLay_dR depth_dR _, shaped_map canLay_dR depth_dR _, noMix_list noMix_dR _ _, ?_⟩
      rw [if_neg Bool.false_ne_true, same_list same_dR, decide_eq_true rfl]
      exact q _
    have one : 1 ≤ os.length := Nat.pos_of_ne_zero fun z => hb (decide_eq_true (by rw [List.length_eq_zero_iff.mp z]; rfl))
    -- one of them told again
    have S6F := S6.same s6E
    have lom : (os.map fun (r : Rl) => V.ref r.r).length = os.length := List.length_map ..
    have nol : ol ≠ st := (stf_fresh S5 (But.refl _ _) hol).2
    have ntl' : tl ≠ st := (stf_fresh S4 (But.refl _ _) htl0).2
    have nsl : sl ≠ st := (stf_fresh S4 (But.refl _ _) hsl0).2
    refine ⟨_, rfl, _, rfl, _, rfl, ol, _, rfl, .inl (SqL.of (s6E _ _ holO)), st, ns, k3, (((os.map fun (r : Rl) => V.ref r.r).length : Nat) : Int), rfl, S6F, by omega, hlen, by omega, fun rT HG aT bT SG BG => ?_⟩
    obtain ⟨at_, rfl, hat⟩ := nat_of aT bT
    rw [lom] at hat
    have eo : os[at_]? = some os[at_] := List.getElem?_eq_getElem hat
    obtain ⟨r, hr0⟩ : ∃ r, r = os[at_] := ⟨_, rfl⟩
    rw [← hr0] at eo
    have hro := List.mem_of_getElem? eo
    have hrr := osub r hro
    have hstt := ost r hro
    have holG := BG _ _ (s6E _ _ holO) nol
    have htlG := BG _ _ (s6E _ _ htl6) ntl'
    have hslG := BG _ _ (s6E _ _ hsl6) nsl
    have hppG := BG _ _ (s6E _ _ hpp6) npp
    have hrpG := BG _ _ (s6E _ _ hrp6) nrp
    have hRsG : RulesAt HG m rs := fun r' h' => ⟨stf_tup S6F BG ((hRs6.same s6E) r' h').1, (hRs6 r' h').2⟩
    have hTG : TB HG m ts RT.1 := ⟨hT6.len, fun i t' r' h1 h2 => stf_tup S6F BG ((hT6.same s6E).at_ i t' r' h1 h2), hT6.rl⟩
    have hstG : Steps4 HG sw := fun w' hw' => stf_tup S6F BG ((hst6.same s6E) w' hw')
    obtain ⟨hrA, hrx, hry⟩ := hRsG r hrr
    refine ⟨ol, _, _, _, rfl, rfl, SqL.of holG, atI_nat (j := at_) (v := V.ref r.r) (by rw [List.getElem?_map, eo]; rfl), ?_⟩
    have bookG : ∀ {HX : Hp}, Same HG HX → BookAt K HX tl (ts.zip RT.1) m := fun sX => by
      have hTX := hTG.same sX
      obtain ⟨z1, _⟩ := hTX.zip
      exact ⟨by rw [zip_refs hTX.len]; exact SqL.of (sX _ _ htlG), fun w' hw' => ⟨z1 w' hw', hTX.rl _ (List.of_mem_zip (a := w'.1) (b := w'.2) hw').2⟩, m1, m7, by rw [List.length_zip, hTX.len, lnT]; omega⟩
    have lrm : (rs.map fun (r : Rl) => V.ref r.r).length = rs.length := List.length_map ..
    refine ⟨_, rfl, rp, _, rfl, .inl (SqL.of hrpG), (rs.map fun (r : Rl) => V.ref r.r).length, 12, rfl, rfl, _, rfl, ?_⟩
    refine ite2 (fun hl12 => ?_) (fun _ => iteF ?_)
    · refine ⟨_, rfl, _, rfl, _, rfl, (by show 1 ≤ sizeLine; decide), fun n1 hn1 => ?_⟩
      have sH := Same.new (o := .lst [V.ref r.r]) hn1
      have hn1H : (upd HG n1 (.lst [V.ref r.r])) n1 = some (.lst [V.ref r.r]) := upd_same
      generalize upd HG n1 (.lst [V.ref r.r]) = HH at sH hn1H
      refine ⟨rp, n1, _, _, rfl, rfl, sH _ _ hrpG, hn1H, Nat.le_of_lt (small1000 (by rw [lrm]; show rs.length + 1 ≤ 1000; omega)), fun n3 hn3 => ?_⟩
      have em : rs.map (fun (r : Rl) => V.ref r.r) ++ [V.ref r.r] = (rs ++ [r]).map fun (r : Rl) => V.ref r.r := by rw [List.map_append]; rfl
      have sI := sH.trans (Same.new (o := .lst (rs.map (fun (r : Rl) => V.ref r.r) ++ [V.ref r.r])) hn3)
      have hn3I : (upd HH n3 (.lst (rs.map (fun (r : Rl) => V.ref r.r) ++ [V.ref r.r]))) n3 = some (.lst ((rs ++ [r]).map fun (r : Rl) => V.ref r.r)) := by rw [upd_same, em]
      generalize upd HH n3 (.lst (rs.map (fun (r : Rl) => V.ref r.r) ++ [V.ref r.r])) = HI at sI hn3I
      have hRsI : RulesAt HI m (rs ++ [r]) := fun r' h' => by
        rcases List.mem_append.mp h' with h' | h'
        · exact (hRsG.same sI) r' h'
        · rw [List.mem_singleton.mp h']; exact (hRsG.same sI) r hrr
      refine ⟨_, rfl, m, n3, pp, rs ++ [r], ps, rfl, m1, m7, SqL.of hn3I, hRsI, (by rw [List.length_append]; show rs.length + 1 ≤ 200; omega), SqL.of (sI _ _ hppG), lp10, hfull, fun t' tl' sl' ts' sw' HJ sJ ht' htl0' htl' hT' hsl0' hsl' hst' esw' lsw' ntl2 => ?_⟩
      have ed : (rs ++ [r]).map Rl.d = rs.map Rl.d ++ [r.d] := by rw [List.map_append]; rfl
      rw [ed, agn (List.mem_map.mpr ⟨r, hrr, rfl⟩), ← hRT] at hT' esw'
      have sGJ := sI.trans sJ
      refine ⟨_, rfl, _, rfl, (by show 2 ≤ sizeLine; decide), fun tt htt => ?_⟩
      have sK := Same.new (o := .tup [V.ref tl, V.ref sl]) htt
      have sGK := sGJ.trans sK
      obtain ⟨e1', e2', e3'⟩ := tabS_eq RT.1 (RT.2.map intsS)
      have tb1 := (hst'.same sK).tb
      rw [esw'] at tb1
      have tb2 := (hstG.same sGK).tb
      rw [esw] at tb2
      have eus : ∀ (l : List SW4), (l.map fun w => V.ref w.1) = (l.map (·.1)).map V.ref := fun l => by rw [List.map_map]; rfl
      refine ⟨_, _, tabS_dv (sK _ _ ht') (sK _ _ htl') (hT'.same sK) (by rw [← eus]; exact sK _ _ hsl') tb1, tabS_dv upd_same (sGK _ _ htlG) (hTG.same sGK) (by rw [← eus]; exact sGK _ _ hslG) tb2, e3', e3', e2', _, rfl, ?_⟩
      rw [if_pos rfl, e1']
      refine iteF ?_
      exact ⟨_, rfl, _, rfl, tl, r.r, ts.zip RT.1, r.st, r.x, r.y, m, rfl, bookG sGK, sGK _ _ hrA, hrx, hry, (fun H' _ _ => ⟨rfl, by rw [decide_eq_true rfl]; exact q H'⟩), fun p' a' b' H' bad _ _ _ => absurd (ook r hro) bad.not⟩
    · exact ⟨_, rfl, _, rfl, tl, r.r, ts.zip RT.1, r.st, r.x, r.y, m, rfl, bookG (Same.refl _), (Same.refl _) _ _ hrA, hrx, hry, (fun H' _ _ => ⟨rfl, by rw [decide_eq_true rfl]; exact q H'⟩), fun p' a' b' H' bad _ _ _ => absurd (ook r hro) bad.not⟩
end
end Own

namespace Own
open PySem L2
/-! what the top has written, and the law's own head -/
theorem all_mk {l : PySem.W.OpenLaw} {w : World} {K : PySem.W.Frag} {h : Heap} {mg : Str → Option Value} {fa fH fC fAL fIW fL fM fN fCK fBT fUL fFP fFS fWN fMD fFL fE fU fF fS2 fX fD2 fB fZ fT fTH fRU fPA fFI fDN fQ : Addr} (X : K.In h) (G : h.Ns mainGlobals mg) (hfa : mg "law" = some (.ref fa))
    {odH anH odC anC odAL anAL odIW anIW odL anL odM anM odN anN odCK anCK odBT anBT odUL anUL odFP anFP odFS anFS odWN anWN odMD anMD odFL anFL odE anE odU anU odF anF odS2 anS2 odX anX odD2 anD2 odB anB odZ anZ odT anT odTH anTH odRU anRU odPA anPA odFI anFI odDN anDN odQ anQ : Option Addr} {slH slC slAL slIW slL slM slN slCK slBT slUL slFP slFS slWN slMD slFL slE slU slF slS2 slX slD2 slB slZ slT slTH slRU slPA slFI slDN slQ : Array (Option Value)} {ocH kVH dcH pmH cdH ctH ocC kVC dcC pmC cdC ctC ocAL kVAL dcAL pmAL cdAL ctAL ocIW kVIW dcIW pmIW cdIW ctIW ocL kVL dcL pmL cdL ctL ocM kVM dcM pmM cdM ctM ocN kVN dcN pmN cdN ctN ocCK kVCK dcCK pmCK cdCK ctCK ocBT kVBT dcBT pmBT cdBT ctBT ocUL kVUL dcUL pmUL cdUL ctUL ocFP kVFP dcFP pmFP cdFP ctFP ocFS kVFS dcFS pmFS cdFS ctFS ocWN kVWN dcWN pmWN cdWN ctWN ocMD kVMD dcMD pmMD cdMD ctMD ocFL kVFL dcFL pmFL cdFL ctFL ocE kVE dcE pmE cdE ctE ocU kVU dcU pmU cdU ctU ocF kVF dcF pmF cdF ctF ocS2 kVS2 dcS2 pmS2 cdS2 ctS2 ocX kVX dcX pmX cdX ctX ocD2 kVD2 dcD2 pmD2 cdD2 ctD2 ocB kVB dcB pmB cdB ctB ocZ kVZ dcZ pmZ cdZ ctZ ocT kVT dcT pmT cdT ctT ocTH kVTH dcTH pmTH cdTH ctTH ocRU kVRU dcRU pmRU cdRU ctRU ocPA kVPA dcPA pmPA cdPA ctPA ocFI kVFI dcFI pmFI cdFI ctFI ocDN kVDN dcDN pmDN cdDN ctDN ocQ kVQ dcQ pmQ cdQ ctQ : Value}
    (aH : PySem.W.nsIn K mainGlobals "has_column" = some (some (.ref fH))) (lH : K.lookup fH = some ⟨ocH, odH, .func (PySem.W.fnOf "has_column" "has_column" (defArgs sHas) (defBody sHas) (defScope sHas) .none kVH dcH pmH anH cdH ctH), slH⟩) (cH : PySem.W.codeIn K cdH "has_column" = true) (kH : PySem.W.keepIn K (.ref fH) = true)
    (aC : PySem.W.nsIn K mainGlobals "columns_of" = some (some (.ref fC))) (lC : K.lookup fC = some ⟨ocC, odC, .func (PySem.W.fnOf "columns_of" "columns_of" (defArgs sCols) (defBody sCols) (defScope sCols) .none kVC dcC pmC anC cdC ctC), slC⟩) (cC : PySem.W.codeIn K cdC "columns_of" = true) (kC : PySem.W.keepIn K (.ref fC) = true)
    (aAL : PySem.W.nsIn K mainGlobals "all_of" = some (some (.ref fAL))) (lAL : K.lookup fAL = some ⟨ocAL, odAL, .func (PySem.W.fnOf "all_of" "all_of" (defArgs sAll) (defBody sAll) (defScope sAll) .none kVAL dcAL pmAL anAL cdAL ctAL), slAL⟩) (cAL : PySem.W.codeIn K cdAL "all_of" = true) (kAL : PySem.W.keepIn K (.ref fAL) = true)
    (aIW : PySem.W.nsIn K mainGlobals "is_within" = some (some (.ref fIW))) (lIW : K.lookup fIW = some ⟨ocIW, odIW, .func (PySem.W.fnOf "is_within" "is_within" (defArgs sWithin) (defBody sWithin) (defScope sWithin) .none kVIW dcIW pmIW anIW cdIW ctIW), slIW⟩) (cIW : PySem.W.codeIn K cdIW "is_within" = true) (kIW : PySem.W.keepIn K (.ref fIW) = true)
    (aL : PySem.W.nsIn K mainGlobals "alike" = some (some (.ref fL))) (lL : K.lookup fL = some ⟨ocL, odL, .func (PySem.W.fnOf "alike" "alike" (defArgs sAlike) (defBody sAlike) (defScope sAlike) .none kVL dcL pmL anL cdL ctL), slL⟩) (cL : PySem.W.codeIn K cdL "alike" = true) (kL : PySem.W.keepIn K (.ref fL) = true)
    (aM : PySem.W.nsIn K mainGlobals "mixed" = some (some (.ref fM))) (lM : K.lookup fM = some ⟨ocM, odM, .func (PySem.W.fnOf "mixed" "mixed" (defArgs sMixed) (defBody sMixed) (defScope sMixed) .none kVM dcM pmM anM cdM ctM), slM⟩) (cM : PySem.W.codeIn K cdM "mixed" = true) (kM : PySem.W.keepIn K (.ref fM) = true)
    (aN : PySem.W.nsIn K mainGlobals "noughts" = some (some (.ref fN))) (lN : K.lookup fN = some ⟨ocN, odN, .func (PySem.W.fnOf "noughts" "noughts" (defArgs sNoughts) (defBody sNoughts) (defScope sNoughts) .none kVN dcN pmN anN cdN ctN), slN⟩) (cN : PySem.W.codeIn K cdN "noughts" = true) (kN : PySem.W.keepIn K (.ref fN) = true)
    (aCK : PySem.W.nsIn K mainGlobals "check_parts" = some (some (.ref fCK))) (lCK : K.lookup fCK = some ⟨ocCK, odCK, .func (PySem.W.fnOf "check_parts" "check_parts" (defArgs sCheck) (defBody sCheck) (defScope sCheck) .none kVCK dcCK pmCK anCK cdCK ctCK), slCK⟩) (cCK : PySem.W.codeIn K cdCK "check_parts" = true) (kCK : PySem.W.keepIn K (.ref fCK) = true)
    (aBT : PySem.W.nsIn K mainGlobals "begun_table" = some (some (.ref fBT))) (lBT : K.lookup fBT = some ⟨ocBT, odBT, .func (PySem.W.fnOf "begun_table" "begun_table" (defArgs sBegunT) (defBody sBegunT) (defScope sBegunT) .none kVBT dcBT pmBT anBT cdBT ctBT), slBT⟩) (cBT : PySem.W.codeIn K cdBT "begun_table" = true) (kBT : PySem.W.keepIn K (.ref fBT) = true)
    (aUL : PySem.W.nsIn K mainGlobals "first_unlike" = some (some (.ref fUL))) (lUL : K.lookup fUL = some ⟨ocUL, odUL, .func (PySem.W.fnOf "first_unlike" "first_unlike" (defArgs sUnlike) (defBody sUnlike) (defScope sUnlike) .none kVUL dcUL pmUL anUL cdUL ctUL), slUL⟩) (cUL : PySem.W.codeIn K cdUL "first_unlike" = true) (kUL : PySem.W.keepIn K (.ref fUL) = true)
    (aFP : PySem.W.nsIn K mainGlobals "first_place" = some (some (.ref fFP))) (lFP : K.lookup fFP = some ⟨ocFP, odFP, .func (PySem.W.fnOf "first_place" "first_place" (defArgs sPlace) (defBody sPlace) (defScope sPlace) .none kVFP dcFP pmFP anFP cdFP ctFP), slFP⟩) (cFP : PySem.W.codeIn K cdFP "first_place" = true) (kFP : PySem.W.keepIn K (.ref fFP) = true)
    (aFS : PySem.W.nsIn K mainGlobals "first_step" = some (some (.ref fFS))) (lFS : K.lookup fFS = some ⟨ocFS, odFS, .func (PySem.W.fnOf "first_step" "first_step" (defArgs sStep) (defBody sStep) (defScope sStep) .none kVFS dcFS pmFS anFS cdFS ctFS), slFS⟩) (cFS : PySem.W.codeIn K cdFS "first_step" = true) (kFS : PySem.W.keepIn K (.ref fFS) = true)
    (aWN : PySem.W.nsIn K mainGlobals "with_number" = some (some (.ref fWN))) (lWN : K.lookup fWN = some ⟨ocWN, odWN, .func (PySem.W.fnOf "with_number" "with_number" (defArgs sWithN) (defBody sWithN) (defScope sWithN) .none kVWN dcWN pmWN anWN cdWN ctWN), slWN⟩) (cWN : PySem.W.codeIn K cdWN "with_number" = true) (kWN : PySem.W.keepIn K (.ref fWN) = true)
    (aMD : PySem.W.nsIn K mainGlobals "made_alike" = some (some (.ref fMD))) (lMD : K.lookup fMD = some ⟨ocMD, odMD, .func (PySem.W.fnOf "made_alike" "made_alike" (defArgs sMade) (defBody sMade) (defScope sMade) .none kVMD dcMD pmMD anMD cdMD ctMD), slMD⟩) (cMD : PySem.W.codeIn K cdMD "made_alike" = true) (kMD : PySem.W.keepIn K (.ref fMD) = true)
    (aFL : PySem.W.nsIn K mainGlobals "filled" = some (some (.ref fFL))) (lFL : K.lookup fFL = some ⟨ocFL, odFL, .func (PySem.W.fnOf "filled" "filled" (defArgs sFilled) (defBody sFilled) (defScope sFilled) .none kVFL dcFL pmFL anFL cdFL ctFL), slFL⟩) (cFL : PySem.W.codeIn K cdFL "filled" = true) (kFL : PySem.W.keepIn K (.ref fFL) = true)
    (aE : PySem.W.nsIn K mainGlobals "seen_row" = some (some (.ref fE))) (lE : K.lookup fE = some ⟨ocE, odE, .func (PySem.W.fnOf "seen_row" "seen_row" (defArgs sSeen) (defBody sSeen) (defScope sSeen) .none kVE dcE pmE anE cdE ctE), slE⟩) (cE : PySem.W.codeIn K cdE "seen_row" = true) (kE : PySem.W.keepIn K (.ref fE) = true)
    (aU : PySem.W.nsIn K mainGlobals "groups_on" = some (some (.ref fU))) (lU : K.lookup fU = some ⟨ocU, odU, .func (PySem.W.fnOf "groups_on" "groups_on" (defArgs sGroups) (defBody sGroups) (defScope sGroups) .none kVU dcU pmU anU cdU ctU), slU⟩) (cU : PySem.W.codeIn K cdU "groups_on" = true) (kU : PySem.W.keepIn K (.ref fU) = true)
    (aF : PySem.W.nsIn K mainGlobals "firsts_on" = some (some (.ref fF))) (lF : K.lookup fF = some ⟨ocF, odF, .func (PySem.W.fnOf "firsts_on" "firsts_on" (defArgs sFirsts) (defBody sFirsts) (defScope sFirsts) .none kVF dcF pmF anF cdF ctF), slF⟩) (cF : PySem.W.codeIn K cdF "firsts_on" = true) (kF : PySem.W.keepIn K (.ref fF) = true)
    (aS2 : PySem.W.nsIn K mainGlobals "settle_breach" = some (some (.ref fS2))) (lS2 : K.lookup fS2 = some ⟨ocS2, odS2, .func (PySem.W.fnOf "settle_breach" "settle_breach" (defArgs sSettle) (defBody sSettle) (defScope sSettle) .none kVS2 dcS2 pmS2 anS2 cdS2 ctS2), slS2⟩) (cS2 : PySem.W.codeIn K cdS2 "settle_breach" = true) (kS2 : PySem.W.keepIn K (.ref fS2) = true)
    (aX : PySem.W.nsIn K mainGlobals "lacking_mix" = some (some (.ref fX))) (lX : K.lookup fX = some ⟨ocX, odX, .func (PySem.W.fnOf "lacking_mix" "lacking_mix" (defArgs sLack) (defBody sLack) (defScope sLack) .none kVX dcX pmX anX cdX ctX), slX⟩) (cX : PySem.W.codeIn K cdX "lacking_mix" = true) (kX : PySem.W.keepIn K (.ref fX) = true)
    (aD2 : PySem.W.nsIn K mainGlobals "deal_breach" = some (some (.ref fD2))) (lD2 : K.lookup fD2 = some ⟨ocD2, odD2, .func (PySem.W.fnOf "deal_breach" "deal_breach" (defArgs sDeal) (defBody sDeal) (defScope sDeal) .none kVD2 dcD2 pmD2 anD2 cdD2 ctD2), slD2⟩) (cD2 : PySem.W.codeIn K cdD2 "deal_breach" = true) (kD2 : PySem.W.keepIn K (.ref fD2) = true)
    (aB : PySem.W.nsIn K mainGlobals "breach" = some (some (.ref fB))) (lB : K.lookup fB = some ⟨ocB, odB, .func (PySem.W.fnOf "breach" "breach" (defArgs sBreach) (defBody sBreach) (defScope sBreach) .none kVB dcB pmB anB cdB ctB), slB⟩) (cB : PySem.W.codeIn K cdB "breach" = true) (kB : PySem.W.keepIn K (.ref fB) = true)
    (aZ : PySem.W.nsIn K mainGlobals "keeps" = some (some (.ref fZ))) (lZ : K.lookup fZ = some ⟨ocZ, odZ, .func (PySem.W.fnOf "keeps" "keeps" (defArgs sKeeps) (defBody sKeeps) (defScope sKeeps) .none kVZ dcZ pmZ anZ cdZ ctZ), slZ⟩) (cZ : PySem.W.codeIn K cdZ "keeps" = true) (kZ : PySem.W.keepIn K (.ref fZ) = true)
    (aT : PySem.W.nsIn K mainGlobals "_law_take" = some (some (.ref fT))) (lT : K.lookup fT = some ⟨ocT, odT, .func (PySem.W.fnOf "_law_take" "_law_take" (defArgs sTake) (defBody sTake) (defScope sTake) .none kVT dcT pmT anT cdT ctT), slT⟩) (cT : PySem.W.codeIn K cdT "_law_take" = true) (kT : PySem.W.keepIn K (.ref fT) = true)
    (aTH : PySem.W.nsIn K mainGlobals "_law_thin" = some (some (.ref fTH))) (lTH : K.lookup fTH = some ⟨ocTH, odTH, .func (PySem.W.fnOf "_law_thin" "_law_thin" (defArgs sThin) (defBody sThin) (defScope sThin) .none kVTH dcTH pmTH anTH cdTH ctTH), slTH⟩) (cTH : PySem.W.codeIn K cdTH "_law_thin" = true) (kTH : PySem.W.keepIn K (.ref fTH) = true)
    (aRU : PySem.W.nsIn K mainGlobals "_law_rules" = some (some (.ref fRU))) (lRU : K.lookup fRU = some ⟨ocRU, odRU, .func (PySem.W.fnOf "_law_rules" "_law_rules" (defArgs sTRules) (defBody sTRules) (defScope sTRules) .none kVRU dcRU pmRU anRU cdRU ctRU), slRU⟩) (cRU : PySem.W.codeIn K cdRU "_law_rules" = true) (kRU : PySem.W.keepIn K (.ref fRU) = true)
    (aPA : PySem.W.nsIn K mainGlobals "_law_parts" = some (some (.ref fPA))) (lPA : K.lookup fPA = some ⟨ocPA, odPA, .func (PySem.W.fnOf "_law_parts" "_law_parts" (defArgs sParts53) (defBody sParts53) (defScope sParts53) .none kVPA dcPA pmPA anPA cdPA ctPA), slPA⟩) (cPA : PySem.W.codeIn K cdPA "_law_parts" = true) (kPA : PySem.W.keepIn K (.ref fPA) = true)
    (aFI : PySem.W.nsIn K mainGlobals "_law_first" = some (some (.ref fFI))) (lFI : K.lookup fFI = some ⟨ocFI, odFI, .func (PySem.W.fnOf "_law_first" "_law_first" (defArgs sFirst5) (defBody sFirst5) (defScope sFirst5) .none kVFI dcFI pmFI anFI cdFI ctFI), slFI⟩) (cFI : PySem.W.codeIn K cdFI "_law_first" = true) (kFI : PySem.W.keepIn K (.ref fFI) = true)
    (aDN : PySem.W.nsIn K mainGlobals "_law_done" = some (some (.ref fDN))) (lDN : K.lookup fDN = some ⟨ocDN, odDN, .func (PySem.W.fnOf "_law_done" "_law_done" (defArgs sDone5) (defBody sDone5) (defScope sDone5) .none kVDN dcDN pmDN anDN cdDN ctDN), slDN⟩) (cDN : PySem.W.codeIn K cdDN "_law_done" = true) (kDN : PySem.W.keepIn K (.ref fDN) = true)
    (aQ : PySem.W.nsIn K mainGlobals "law" = some (some (.ref fQ))) (lQ : K.lookup fQ = some ⟨ocQ, odQ, .func (PySem.W.fnOf "law" "law" (defArgs sLaw) (defBody sLaw) (defScope sLaw) .none kVQ dcQ pmQ anQ cdQ ctQ), slQ⟩) (cQ : PySem.W.codeIn K cdQ "law" = true) (kQ : PySem.W.keepIn K (.ref fQ) = true)
    {tkMP : Tok} (aMP : PySem.W.nsIn K mainGlobals "MOST_PARTS" = some (some (.int 10 tkMP)))
    (ylen : PySem.W.nsIn K mainGlobals "len" = some none) (yrange : PySem.W.nsIn K mainGlobals "range" = some none) (yenumerate : PySem.W.nsIn K mainGlobals "enumerate" = some none) (ylist : PySem.W.nsIn K mainGlobals "list" = some none) (yint : PySem.W.nsIn K mainGlobals "int" = some none) (ytuple : PySem.W.nsIn K mainGlobals "tuple" = some none) (yall : PySem.W.nsIn K mainGlobals "all" = some none) (ymin : PySem.W.nsIn K mainGlobals "min" = some none) (ymax : PySem.W.nsIn K mainGlobals "max" = some none) (ysorted : PySem.W.nsIn K mainGlobals "sorted" = some none) (yset : PySem.W.nsIn K mainGlobals "set" = some none) (ydict : PySem.W.nsIn K mainGlobals "dict" = some none) :
    ∃ fd : FuncData, (∀ (s : Shared) (v : Value), BindsTo s fd ⟨[v], []⟩ [("_law_script", v)]) ∧ ∀ base : Heap, K.In base → base.Ns mainGlobals mg → FnOk l.prog w K mg base CX0 10 fa fd ["_law_script"] (spLaw K) := by
  have e := hfa.symm.trans (PySem.W.mg_of X G aQ)
  cases e
  have FH := fun_mk (st := sHas) lH cH kH
  have mH := PySem.W.mg_of X G aH
  have bH := FH.binds (ps := ["some", "column"]) fun _ _ _ _ _ _ us hl => match us, hl with | [_, _], _ => rfl
  have FC := fun_mk (st := sCols) lC cC kC
  have mC := PySem.W.mg_of X G aC
  have bC := FC.binds (ps := ["some"]) fun _ _ _ _ _ _ us hl => match us, hl with | [_], _ => rfl
  have FAL := fun_mk (st := sAll) lAL cAL kAL
  have mAL := PySem.W.mg_of X G aAL
  have bAL := FAL.binds (ps := ["many"]) fun _ _ _ _ _ _ us hl => match us, hl with | [_], _ => rfl
  have FIW := fun_mk (st := sWithin) lIW cIW kIW
  have mIW := PySem.W.mg_of X G aIW
  have bIW := FIW.binds (ps := ["one", "other"]) fun _ _ _ _ _ _ us hl => match us, hl with | [_, _], _ => rfl
  have FL := fun_mk (st := sAlike) lL cL kL
  have mL := PySem.W.mg_of X G aL
  have bL := FL.binds (ps := ["one", "other", "some"]) fun _ _ _ _ _ _ us hl => match us, hl with | [_, _, _], _ => rfl
  have FM := fun_mk (st := sMixed) lM cM kM
  have mM := PySem.W.mg_of X G aM
  have bM := FM.binds (ps := ["one", "other", "some"]) fun _ _ _ _ _ _ us hl => match us, hl with | [_, _, _], _ => rfl
  have FN := fun_mk (st := sNoughts) lN cN kN
  have mN := PySem.W.mg_of X G aN
  have bN := FN.binds (ps := ["many"]) fun _ _ _ _ _ _ us hl => match us, hl with | [_], _ => rfl
  have FCK := fun_mk (st := sCheck) lCK cCK kCK
  have mCK := PySem.W.mg_of X G aCK
  have bCK := FCK.binds (ps := ["many", "parts"]) fun _ _ _ _ _ _ us hl => match us, hl with | [_, _], _ => rfl
  have FBT := fun_mk (st := sBegunT) lBT cBT kBT
  have mBT := PySem.W.mg_of X G aBT
  have bBT := FBT.binds (ps := ["many", "parts"]) fun _ _ _ _ _ _ us hl => match us, hl with | [_, _], _ => rfl
  have FUL := fun_mk (st := sUnlike) lUL cUL kUL
  have mUL := PySem.W.mg_of X G aUL
  have bUL := FUL.binds (ps := ["one", "other", "some"]) fun _ _ _ _ _ _ us hl => match us, hl with | [_, _, _], _ => rfl
  have FFP := fun_mk (st := sPlace) lFP cFP kFP
  have mFP := PySem.W.mg_of X G aFP
  have bFP := FFP.binds (ps := ["rows", "rule"]) fun _ _ _ _ _ _ us hl => match us, hl with | [_, _], _ => rfl
  have FFS := fun_mk (st := sStep) lFS cFS kFS
  have mFS := PySem.W.mg_of X G aFS
  have bFS := FFS.binds (ps := ["rules", "rows"]) fun _ _ _ _ _ _ us hl => match us, hl with | [_, _], _ => rfl
  have FWN := fun_mk (st := sWithN) lWN cWN kWN
  have mWN := PySem.W.mg_of X G aWN
  have bWN := FWN.binds (ps := ["row", "column", "number"]) fun _ _ _ _ _ _ us hl => match us, hl with | [_, _, _], _ => rfl
  have FMD := fun_mk (st := sMade) lMD cMD kMD
  have mMD := PySem.W.mg_of X G aMD
  have bMD := FMD.binds (ps := ["rows", "first", "second", "column"]) fun _ _ _ _ _ _ us hl => match us, hl with | [_, _, _, _], _ => rfl
  have FFL := fun_mk (st := sFilled) lFL cFL kFL
  have mFL := PySem.W.mg_of X G aFL
  have bFL := FFL.binds (ps := ["many", "rules", "parts"]) fun _ _ _ _ _ _ us hl => match us, hl with | [_, _, _], _ => rfl
  have FE := fun_mk (st := sSeen) lE cE kE
  have mE := PySem.W.mg_of X G aE
  have bE := FE.binds (ps := ["row", "part"]) fun _ _ _ _ _ _ us hl => match us, hl with | [_, _], _ => rfl
  have FU := fun_mk (st := sGroups) lU cU kU
  have mU := PySem.W.mg_of X G aU
  have bU := FU.binds (ps := ["book", "some"]) fun _ _ _ _ _ _ us hl => match us, hl with | [_, _], _ => rfl
  have FF := fun_mk (st := sFirsts) lF cF kF
  have mF := PySem.W.mg_of X G aF
  have bF := FF.binds (ps := ["book", "some"]) fun _ _ _ _ _ _ us hl => match us, hl with | [_, _], _ => rfl
  have FS2 := fun_mk (st := sSettle) lS2 cS2 kS2
  have mS2 := PySem.W.mg_of X G aS2
  have bS2 := FS2.binds (ps := ["book", "left", "right"]) fun _ _ _ _ _ _ us hl => match us, hl with | [_, _, _], _ => rfl
  have FX := fun_mk (st := sLack) lX cX kX
  have mX := PySem.W.mg_of X G aX
  have bX := FX.binds (ps := ["rows", "held"]) fun _ _ _ _ _ _ us hl => match us, hl with | [_, _], _ => rfl
  have FD2 := fun_mk (st := sDeal) lD2 cD2 kD2
  have mD2 := PySem.W.mg_of X G aD2
  have bD2 := FD2.binds (ps := ["book", "left", "right"]) fun _ _ _ _ _ _ us hl => match us, hl with | [_, _, _], _ => rfl
  have FB := fun_mk (st := sBreach) lB cB kB
  have mB := PySem.W.mg_of X G aB
  have bB := FB.binds (ps := ["book", "rule"]) fun _ _ _ _ _ _ us hl => match us, hl with | [_, _], _ => rfl
  have FZ := fun_mk (st := sKeeps) lZ cZ kZ
  have mZ := PySem.W.mg_of X G aZ
  have bZ := FZ.binds (ps := ["book", "rules"]) fun _ _ _ _ _ _ us hl => match us, hl with | [_, _], _ => rfl
  have FT := fun_mk (st := sTake) lT cT kT
  have mT := PySem.W.mg_of X G aT
  have bT := FT.binds (ps := ["_law_state", "_law_most"]) fun _ _ _ _ _ _ us hl => match us, hl with | [_, _], _ => rfl
  have FTH := fun_mk (st := sThin) lTH cTH kTH
  have mTH := PySem.W.mg_of X G aTH
  have bTH := FTH.binds (ps := ["_law_state", "_law_many"]) fun _ _ _ _ _ _ us hl => match us, hl with | [_, _], _ => rfl
  have FRU := fun_mk (st := sTRules) lRU cRU kRU
  have mRU := PySem.W.mg_of X G aRU
  have bRU := FRU.binds (ps := ["_law_state", "_law_many"]) fun _ _ _ _ _ _ us hl => match us, hl with | [_, _], _ => rfl
  have FPA := fun_mk (st := sParts53) lPA cPA kPA
  have mPA := PySem.W.mg_of X G aPA
  have bPA := FPA.binds (ps := ["_law_state", "_law_many", "_law_most"]) fun _ _ _ _ _ _ us hl => match us, hl with | [_, _, _], _ => rfl
  have FFI := fun_mk (st := sFirst5) lFI cFI kFI
  have mFI := PySem.W.mg_of X G aFI
  have bFI := FFI.binds (ps := ["_law_many", "_law_parts_here"]) fun _ _ _ _ _ _ us hl => match us, hl with | [_, _], _ => rfl
  have FDN := fun_mk (st := sDone5) lDN cDN kDN
  have mDN := PySem.W.mg_of X G aDN
  have bDN := FDN.binds (ps := ["_law_rows", "_law_rules_here", "_law_step"]) fun _ _ _ _ _ _ us hl => match us, hl with | [_, _, _], _ => rfl
  have FQ := fun_mk (st := sLaw) lQ cQ kQ
  have mQ := PySem.W.mg_of X G aQ
  have mMP := PySem.W.mg_of X G aMP
  have zlen := PySem.W.mg_none_of X G ylen
  have zrange := PySem.W.mg_none_of X G yrange
  have zenumerate := PySem.W.mg_none_of X G yenumerate
  have zlist := PySem.W.mg_none_of X G ylist
  have zint := PySem.W.mg_none_of X G yint
  have ztuple := PySem.W.mg_none_of X G ytuple
  have zall := PySem.W.mg_none_of X G yall
  have zmin := PySem.W.mg_none_of X G ymin
  have zmax := PySem.W.mg_none_of X G ymax
  have zsorted := PySem.W.mg_none_of X G ysorted
  have zset := PySem.W.mg_none_of X G yset
  have zdict := PySem.W.mg_none_of X G ydict
  refine ⟨PySem.W.fnOf "law" "law" (defArgs sLaw) (defBody sLaw) (defScope sLaw) .none kVQ dcQ pmQ anQ cdQ ctQ, fun s v => .of_eq rfl, fun base _ _ => ?_⟩
  have GH := ok_has (P := l.prog) (w := w) (mg := mg) (base := base) FH
  have GC := ok_cols FC GH mH kH bH zrange
  have GAL := ok_all (P := l.prog) (w := w) (mg := mg) (base := base) FAL
  have GIW := ok_within (P := l.prog) (w := w) (mg := mg) (base := base) FIW
  have GL := ok_alike FL GC mC kC bC zall
  have GM := ok_mixed FM GH mH kH bH zrange zlen ztuple
  have GN := ok_noughts (P := l.prog) (w := w) (mg := mg) (base := base) FN
  have GCK := ok_check FCK GIW mIW kIW bIW GAL mAL kAL bAL mMP zlen
  have GBT := ok_begunt FBT GM mM kM bM GN mN kN bN zenumerate
  have GUL := ok_unlike FUL GC mC kC bC
  have GFP := ok_place FFP GL mL kL bL GUL mUL kUL bUL zenumerate zrange zlen
  have GFS := ok_step FFS GFP mFP kFP bFP zenumerate
  have GWN := ok_withn (P := l.prog) (w := w) (mg := mg) (base := base) FWN
  have GMD := ok_made FMD GWN mWN kWN bWN zmin zmax
  have GFL := ok_filled FFL GCK mCK kCK bCK GBT mBT kBT bBT GFS mFS kFS bFS GMD mMD kMD bMD
  have GE := ok_seen FE GM mM kM bM GN mN kN bN zlen
  have GU := ok_groups FU GE mE kE bE
  have GF := ok_firsts FF GU mU kU bU
  have GS2 := ok_settle FS2 GU mU kU bU GL mL kL bL
  have GX := ok_lack FX GAL mAL kAL bAL GF mF kF bF GM mM kM bM zdict zlen
  have GD2 := ok_deal FD2 GU mU kU bU GX mX kX bX
  have GB := ok_breach FB GS2 mS2 kS2 bS2 GD2 mD2 kD2 bD2
  have GZ := ok_keeps FZ GB mB kB bB
  have GT := ok_take (P := l.prog) (w := w) (base := base) FT zlen
  have GTH := ok_thin FTH GT mT kT bT
  have GRU := ok_trules FRU GT mT kT bT GTH mTH kTH bTH zrange zlen
  have GPA := ok_parts53 FPA GT mT kT bT GTH mTH kTH bTH zrange zlen
  have GFI := ok_first5 (P := l.prog) (w := w) (base := base) FFI zrange zlen zint
  have GDN := ok_done5 FDN GL mL kL bL zlen ztuple zset zsorted
  exact ok_law FQ GT mT kT bT GPA mPA kPA bPA GRU mRU kRU bRU GFL mFL kFL bFL GZ mZ kZ bZ GFI mFI kFI bFI GDN mDN kDN bDN GL mL kL bL GB mB kB bB zlen ztuple zrange
theorem walk {l : PySem.W.OpenLaw} {q : Program} {loose : List Str} {XP : (Str → Option Value) → Heap → Prop} {YP : World → Heap → Prop} {d : DefRec} {K : Params → PySem.W.Frag} (hn : l.most = some 63) (hdf : d.params.defaults = [])
    (hY : ∀ (w : World) (h : Heap), YP w h → (K w.params).In h)
    (F : ∀ (w : World) (mg : Str → Option Value) (fa : Addr) (h : Heap), (K w.params).In h → h.Ns mainGlobals mg → mg d.name = some (.ref fa) →
      ∃ fd : FuncData, (∀ (s : Shared) (u : Value), BindsTo s fd ⟨[u], []⟩ [("_law_script", u)]) ∧ ∀ base : Heap, (K w.params).In base → base.Ns mainGlobals mg → FnOk l.prog w (K w.params) mg base CX0 10 fa fd ["_law_script"] (spLaw (K w.params))) :
    PySem.W.WalkO q loose XP YP l.row.toRowW d [] (fun f vs => PySem.call f vs) :=
  L2.walk_of (n := 63) (k := 10) (x := "_law_script") (CX := fun _ => CX0) (sp := fun w => spLaw (K w.params)) hn (by decide) hdf ⟨rfl, by decide, by decide⟩ hY F (fun _ _ a ns hl hO hS => ⟨a, ns, rfl, SqF.of hO hS, hl, fun _ => rfl⟩) fun _ _ _ _ _ z => z
end Own
open PySem PySem.W PyProof.Rows
set_option maxRecDepth 100000 in
set_option maxHeartbeats 0 in
theorem PySem.Challenge.cw_splithouse_k55_what_filled_tables_keep_holds : PySem.Challenge.rw_splithouse_k55_what_filled_tables_keep.Holds := by
  w_on; o_law; k_head; (case hw => w_witness2)
  k_fill
  refine Own.walk (l := PySem.Challenge.rw_splithouse_k55_what_filled_tables_keep) rfl rfl (fun w h Y => PySem.W.kIn_of Y) ?F
  case F =>
    intro w mg fa h KX G hmg
    refine' Own.all_mk KX G hmg ?aH ?lH ?cH ?kH ?aC ?lC ?cC ?kC ?aAL ?lAL ?cAL ?kAL ?aIW ?lIW ?cIW ?kIW ?aL ?lL ?cL ?kL ?aM ?lM ?cM ?kM ?aN ?lN ?cN ?kN ?aCK ?lCK ?cCK ?kCK ?aBT ?lBT ?cBT ?kBT ?aUL ?lUL ?cUL ?kUL ?aFP ?lFP ?cFP ?kFP ?aFS ?lFS ?cFS ?kFS ?aWN ?lWN ?cWN ?kWN ?aMD ?lMD ?cMD ?kMD ?aFL ?lFL ?cFL ?kFL ?aE ?lE ?cE ?kE ?aU ?lU ?cU ?kU ?aF ?lF ?cF ?kF ?aS2 ?lS2 ?cS2 ?kS2 ?aX ?lX ?cX ?kX ?aD2 ?lD2 ?cD2 ?kD2 ?aB ?lB ?cB ?kB ?aZ ?lZ ?cZ ?kZ ?aT ?lT ?cT ?kT ?aTH ?lTH ?cTH ?kTH ?aRU ?lRU ?cRU ?kRU ?aPA ?lPA ?cPA ?kPA ?aFI ?lFI ?cFI ?kFI ?aDN ?lDN ?cDN ?kDN ?aQ ?lQ ?cQ ?kQ ?aMP ?ylen ?yrange ?yenumerate ?ylist ?yint ?ytuple ?yall ?ymin ?ymax ?ysorted ?yset ?ydict
    (case aH => k_is)
    (case lH => k_is)
    (case cH => k_is)
    (case kH => k_is)
    (case aC => k_is)
    (case lC => k_is)
    (case cC => k_is)
    (case kC => k_is)
    (case aAL => k_is)
    (case lAL => k_is)
    (case cAL => k_is)
    (case kAL => k_is)
    (case aIW => k_is)
    (case lIW => k_is)
    (case cIW => k_is)
    (case kIW => k_is)
    (case aL => k_is)
    (case lL => k_is)
    (case cL => k_is)
    (case kL => k_is)
    (case aM => k_is)
    (case lM => k_is)
    (case cM => k_is)
    (case kM => k_is)
    (case aN => k_is)
    (case lN => k_is)
    (case cN => k_is)
    (case kN => k_is)
    (case aCK => k_is)
    (case lCK => k_is)
    (case cCK => k_is)
    (case kCK => k_is)
    (case aBT => k_is)
    (case lBT => k_is)
    (case cBT => k_is)
    (case kBT => k_is)
    (case aUL => k_is)
    (case lUL => k_is)
    (case cUL => k_is)
    (case kUL => k_is)
    (case aFP => k_is)
    (case lFP => k_is)
    (case cFP => k_is)
    (case kFP => k_is)
    (case aFS => k_is)
    (case lFS => k_is)
    (case cFS => k_is)
    (case kFS => k_is)
    (case aWN => k_is)
    (case lWN => k_is)
    (case cWN => k_is)
    (case kWN => k_is)
    (case aMD => k_is)
    (case lMD => k_is)
    (case cMD => k_is)
    (case kMD => k_is)
    (case aFL => k_is)
    (case lFL => k_is)
    (case cFL => k_is)
    (case kFL => k_is)
    (case aE => k_is)
    (case lE => k_is)
    (case cE => k_is)
    (case kE => k_is)
    (case aU => k_is)
    (case lU => k_is)
    (case cU => k_is)
    (case kU => k_is)
    (case aF => k_is)
    (case lF => k_is)
    (case cF => k_is)
    (case kF => k_is)
    (case aS2 => k_is)
    (case lS2 => k_is)
    (case cS2 => k_is)
    (case kS2 => k_is)
    (case aX => k_is)
    (case lX => k_is)
    (case cX => k_is)
    (case kX => k_is)
    (case aD2 => k_is)
    (case lD2 => k_is)
    (case cD2 => k_is)
    (case kD2 => k_is)
    (case aB => k_is)
    (case lB => k_is)
    (case cB => k_is)
    (case kB => k_is)
    (case aZ => k_is)
    (case lZ => k_is)
    (case cZ => k_is)
    (case kZ => k_is)
    (case aT => k_is)
    (case lT => k_is)
    (case cT => k_is)
    (case kT => k_is)
    (case aTH => k_is)
    (case lTH => k_is)
    (case cTH => k_is)
    (case kTH => k_is)
    (case aRU => k_is)
    (case lRU => k_is)
    (case cRU => k_is)
    (case kRU => k_is)
    (case aPA => k_is)
    (case lPA => k_is)
    (case cPA => k_is)
    (case kPA => k_is)
    (case aFI => k_is)
    (case lFI => k_is)
    (case cFI => k_is)
    (case kFI => k_is)
    (case aDN => k_is)
    (case lDN => k_is)
    (case cDN => k_is)
    (case kDN => k_is)
    (case aQ => k_is)
    (case lQ => k_is)
    (case cQ => k_is)
    (case kQ => k_is)
    (case aMP => k_is)
    (case ylen => k_is)
    (case yrange => k_is)
    (case yenumerate => k_is)
    (case ylist => k_is)
    (case yint => k_is)
    (case ytuple => k_is)
    (case yall => k_is)
    (case ymin => k_is)
    (case ymax => k_is)
    (case ysorted => k_is)
    (case yset => k_is)
    (case ydict => k_is)


import PyProof.Rows.All
import Wide.All
import OpenK.AllK
import Wide.FinOn
import Lean
import PyProof.EqAt
import PyProof.EqKinds
import PyProof.TupleCall
import KE.KTryMore
import KE.KIsAll
import PyProof.ExcBaseAll.ValueError
import PyProof.NsDelKeeps
import PyProof.ExcArgsOwn
import KE.KDictList
import PyProof.StrCalls2
import PyProof.StrBlockG
import PyProof.StrLawsChain
import PyProof.StrLawsIn
import PyProof.StrLawsRepr
import PyProof.ReprStr
import PyProof.StrBlockI
import PyProof.Rows.FStr
import KE.KSortTup
import PySem.SetTable
import PyProof.SetScanFacts
import PyProof.Rows.SetFrom
import PyProof.TupleKey
import PyProof.StrWalks
import KE.RegKIsAll
import KE.RegKTryMore
import PySem.Challenge.RW_splithouse_k86_rules_let_and_dropped
set_option bootstrap.genMatcherCode false
set_option genSizeOf false
set_option genSizeOfSpec false
set_option Elab.async false
set_option linter.all false
set_option maxRecDepth 100000
universe u v
abbrev Θf := PySem.W.Frag
abbrev Θk (K : PySem.W.Frag) (f : PySem.Addr) : Prop := PySem.W.keepIn K (.ref f) = true
theorem Θm {α : Type u} {β : Type v} {f : α → β} {l : List α} {b : β} : (∃ a, a ∈ l ∧ f a = b) → b ∈ l.map f := List.mem_map.mpr
theorem Θn {α : Type u} {β : Type v} {f : α → β} {l : List α} {b : β} : b ∈ l.map f → ∃ a, a ∈ l ∧ f a = b := List.mem_map.mp
theorem Θl {α : Type u} {β : Type v} {as : List α} (f : α → β) : (as.map f).length = as.length := List.length_map f
theorem Θg {α : Type u} {β : Type v} {f : α → β} {l : List α} {i : Nat} : (l.map f)[i]? = l[i]?.map f := List.getElem?_map ..
theorem Θs {α : Type u} {a b : α} : a ∈ [b] → a = b := List.mem_singleton.mp
theorem Θa {α : Type u} {a : α} {s t : List α} : a ∈ s ++ t → a ∈ s ∨ a ∈ t := List.mem_append.mp
theorem Θc {α : Type u} {a : α} {l : List α} : a ∈ a :: l := List.mem_cons_self ..
theorem Θd {α : Type u} (y : α) {a : α} {l : List α} : a ∈ l → a ∈ y :: l := List.mem_cons_of_mem y
theorem Θe {α : Type u} {l : List α} {i : Nat} {a : α} : l[i]? = some a → a ∈ l := List.mem_of_getElem?
theorem Θh {α : Type u} {l : List α} {i : Nat} (h : i < l.length) : l[i]? = some l[i] := List.getElem?_eq_getElem h
theorem Θo {α : Type u} {a b : α} : some a = some b → a = b := Option.some.inj
noncomputable section
namespace L2
open PySem PySem.Spec PyProof.Rows
abbrev Za_:=@wpAny_bind
abbrev Zb_:=@wpAny_pure
abbrev Zc_:=@Heap.get?_push_of_some
abbrev Zd_:=@Nat.le_refl
abbrev Ze_:=@List.getElem?_eq_some_iff
abbrev Zf_:=@Bool.false_ne_true
abbrev Zg_:=@List.mem_cons
abbrev Zh_:=@List.mem_append_right
abbrev Zi_:=@List.not_mem_nil
abbrev Zj_:=@of_decide_eq_true
abbrev Zk_:=@wpS_bind
abbrev Zl_:=@wpS_pure
abbrev Zm_:=@Heap.get?_push_size
abbrev Zn_:=@Heap.lt_size
abbrev Zo_:=@Nat.le_trans
abbrev Zp_:=@Nat.zero_le
abbrev Zq_:=@Nat.lt_of_lt_of_le
abbrev Zr_:=@decide_eq_true
abbrev Zs_:=@Nat.ne_of_lt
abbrev Zt_:=@List.mem_append_left
abbrev Zu_:=@List.getD_eq_getElem?_getD
abbrev Zv_:=@List.length_append
abbrev Zw_:=@List.map_append
abbrev Zx_:=@List.size_toArray
abbrev Zy_:=@List.append_assoc
abbrev Zz_:=@Array.length_toList
abbrev ZA:=@List.length_cons
abbrev ZB:=@List.length_take
abbrev ZC:=@Array.getElem?_eq_getElem
abbrev ZD:=@List.getElem?_append_right
noncomputable abbrev Key:=Sum Int Str
noncomputable def Hy:Key->Value->Bool
 | .inl k,v=>Value.isInt k v
 | .inr x,v=>Value.isStrOf x v
noncomputable def Ag2 (w:World):Key->Int
 | .inl k=>hashInt k
 | .inr x=>hashStr w x
theorem K2:∀{k:Key} {v:Value},Hy k v=true->(∃i t,k=Sum.inl i/\v=Value.int i t)\/(∃x t,k=Sum.inr x/\v=Value.str x t)
 | .inl i,v,h=>by
  obtain ⟨t,e⟩:=Value.isInt_shape (k:=i) (v:=v) h
  exact .inl ⟨i,t,rfl,e⟩
 | .inr x,v,h=>by
  obtain ⟨t,e⟩:=Value.isStrOf_shape (x:=x) (v:=v) h
  exact .inr ⟨x,t,rfl,e⟩
theorem Th (i:Int) (t:Tok):Hy (.inl i) (.int i t)=true:=by simp [Hy,Value.isInt]
theorem Ti (x:Str) (t:Tok):Hy (.inr x) (.str x t)=true:=by simp [Hy,Value.isStrOf]
theorem Adq (a b:Int):decide ((Sum.inl a:Key)=Sum.inl b)=(a == b):=by
 by_cases e:a=b
 ·subst e; simp
 ·have h:¬(Sum.inl a:Key)=Sum.inl b:=fun q=>e (Sum.inl.inj q)
  rw [decide_eq_false h]
  exact (beq_eq_false_iff_ne.mpr e).symm
theorem Adt (a b:Str):decide ((Sum.inr a:Key)=Sum.inr b)=decide (a=b):=by
 by_cases e:a=b
 ·subst e; simp
 ·have h:¬(Sum.inr a:Key)=Sum.inr b:=fun q=>e (Sum.inr.inj q)
  rw [decide_eq_false h,decide_eq_false e]
theorem Adr (a:Int) (b:Str):decide ((Sum.inl a:Key)=Sum.inr b)=false:=decide_eq_false (fun q=>nomatch q)
theorem Ads (a:Str) (b:Int):decide ((Sum.inr a:Key)=Sum.inl b)=false:=decide_eq_false (fun q=>nomatch q)
noncomputable def K4 (prog:Program) (w:World):PySem.KeyKind prog w Key where
 is:=Hy
 hash:=Ag2 w
 inj:=fun v a b ha hb=>by
  rcases K2 ha with ⟨i,t,rfl,rfl⟩ | ⟨x,t,rfl,rfl⟩
  ·rcases K2 hb with ⟨j,u,rfl,e⟩ | ⟨y,u,rfl,e⟩
   ·injection e with e1 _; rw [e1]
   ·exact nomatch e
  ·rcases K2 hb with ⟨j,u,rfl,e⟩ | ⟨y,u,rfl,e⟩
   ·exact nomatch e
   ·injection e with e1 _; rw [e1]
 byValue:=fun k v h=>by
  rcases K2 h with ⟨i,t,rfl,rfl⟩ | ⟨x,t,rfl,rfl⟩ <;> rfl
 pyHash:=fun hv h=>by
  rcases K2 hv with ⟨i,t,rfl,rfl⟩ | ⟨x,t,rfl,rfl⟩
  ·exact wpAny_pyHash_int h
  ·exact wpAny_pyHash_str h
 eqBool:=fun hu hv h=>by
  rcases K2 hu with ⟨i,t,rfl,rfl⟩ | ⟨x,t,rfl,rfl⟩
  ·rcases K2 hv with ⟨j,u,rfl,rfl⟩ | ⟨y,u,rfl,rfl⟩
   ·rw [Adq] at h; exact wpAny_eqBool_int h
   ·rw [Adr] at h; exact SeqAt.EqAt.int_str i t y u _ _ _ _ h
  ·rcases K2 hv with ⟨j,u,rfl,rfl⟩ | ⟨y,u,rfl,rfl⟩
   ·rw [Ads] at h; exact SeqAt.EqAt.str_int x t j u _ _ _ _ h
   ·rw [Adt] at h; exact wpAny_eqBool_str h
 «strs»:=fun k x t v h=>by
  rcases K2 h with ⟨i,u,rfl,e⟩ | ⟨y,u,rfl,e⟩
  ·exact nomatch e
  ·injection e with e1 _
   subst e1
   cases v <;> rfl
theorem Mc (prog:Program) (w:World) (i:Int) (t:Tok):(K4 prog w).is (.inl i) (.int i t)=true:=Th i t
theorem Md (prog:Program) (w:World) (x:Str) (t:Tok):(K4 prog w).is (.inr x) (.str x t)=true:=Ti x t
inductive V where
 | non | bl (b:Bool) | int (i:Int) | str (x:Str) | byt (b:Array UInt8) | flt (b:UInt64) | ref (a:Addr) | ty (n:String)
 deriving DecidableEq
noncomputable def RelV:V->Value->Prop
 | .non,u=>u=Value.none
 | .bl b,u=>u=Value.bool b
 | .int i,u=>∃t,u=Value.int i t
 | .str x,u=>∃t,u=Value.str x t
 | .byt b,u=>∃t,u=Value.bytes b t
 | .flt b,u=>∃t,u=Value.float b t
 | .ref a,u=>u=Value.ref a
 | .ty n,u=>u=Value.type n
noncomputable abbrev Vals:List V->List Value->Prop:=Paired RelV
theorem Vals.length {xs:List V} {us:List Value} (r:Vals xs us):xs.length=us.length:=Paired.length r
theorem Vals.get:∀{xs:List V} {us:List Value} {i:Nat} {x:V},Vals xs us->xs[i]? = some x->∃u,us[i]? = some u/\RelV x u
 | _,_,_,_,.nil,e=>by simp at e
 | _,_,0,_,.cons r _,e=>by simp at e; subst e; exact ⟨_,rfl,r⟩
 | _,_,i + 1,x,.cons _ t,e=>by
  obtain ⟨u,h1,h2⟩:=Vals.get (i:=i) (x:=x) t (by simpa using e)
  exact ⟨u,by simpa using h1,h2⟩
theorem Vals.set {x:V} {u:Value} (r:RelV x u):∀{xs:List V} {us:List Value} (i:Nat),Vals xs us->Vals (xs.set i x) (us.set i u)
 | _,_,_,.nil=>.nil
 | _,_,0,.cons _ t=>.cons r t
 | _,_,i + 1,.cons q t=>.cons q (Vals.set r i t)
theorem Vals.append:∀{xs ys:List V} {us ws:List Value},Vals xs us->Vals ys ws->Vals (xs++ys) (us++ws)
 | _,_,_,_,.nil,s=>s
 | _,_,_,_,.cons r t,s=>.cons r (Vals.append t s)
theorem Vals.take:∀{xs:List V} {us:List Value} (n:Nat),Vals xs us->Vals (xs.take n) (us.take n)
 | _,_,0,_=>.nil
 | _,_,_ + 1,.nil=>.nil
 | _,_,n + 1,.cons r t=>.cons r (Vals.take n t)
theorem Vals.drop:∀{xs:List V} {us:List Value} (n:Nat),Vals xs us->Vals (xs.drop n) (us.drop n)
 | _,_,0,r=>r
 | _,_,_ + 1,.nil=>.nil
 | _,_,n + 1,.cons _ t=>Vals.drop n t
noncomputable def RelO:Option V->Option Value->Prop
 | some v,some u=>RelV v u
 | none,none=>True
 | _,_=>False
noncomputable def KV {κ:Type}:List (κ × V)->List (κ × Value)->Prop:=Paired fun (p:κ × V) (q:κ × Value)=>p.1=q.1/\RelV p.2 q.2
noncomputable def kV:Key->V
 | .inl i=>.int i
 | .inr x=>.str x
inductive HO where
 | lst (xs:List V)
 | tup (xs:List V)
 | dK (kvs:List (Key × V)) | dT (kvs:List (List Key × V))
 | set (S:Int->Bool) (n:Nat)
 | ins (C dx:Addr) (fs:List (Str × V))
 | own (x:Addr)
 | xd (fs:List (Str × V))
 | met (f x:Addr)
 | rng (lo hi:Int)
 | frz (o:Obj) (u:HO)
 | tbl (ps:Array Value)
 | ext (φ:Heap->Prop)
noncomputable abbrev Hp:=Addr->Option HO
noncomputable def upd (H:Hp) (a:Addr) (o:HO):Hp:=fun b=>if b=a then some o else H b
theorem A3 {H:Hp} {a:Addr} {o:HO}:upd H a o a=some o:=by unfold upd; rw [if_pos rfl]
theorem C6 {H:Hp} {a b:Addr} {o:HO} (h:b≠a):upd H a o b=H b:=by unfold upd; rw [if_neg h]
theorem Eb {H:Hp} {a b:Addr} {o u:HO} (h:H a=some o) (h':H b=some u) (d:o≠u):a≠b:=by
 intro e; subst e; rw [h] at h'; exact d (Θo h')
theorem C7 {H:Hp} {a b:Addr} {o:HO} (h:H a=some o) (h':H b=none):a≠b:=by
 intro e; subst e; rw [h] at h'; cases h'
section
variable (P:Program) (w:World)
noncomputable def ObjOk (H:Hp) (h:Heap) (a:Addr):HO->Prop
 | .lst xs=>xs.length<=sizeLine/\∃(its:List Value) (n:Nat),Vals xs its/\h.get? a=some { cls:=.type "list",data:=.seq its.toArray n }
 | .tup xs=>xs.length<=sizeLine/\∃its:List Value,Vals xs its/\IsTup h a its.toArray
 | .dK kvs=>kvs.length<=sizeLine/\(a == sysModules)=false/\∃vs,KV kvs vs/\h.DictOf (K4 P w) a vs
 | .dT kvs=>kvs.length<=sizeLine/\(a == sysModules)=false/\∃xs:List (List Key × Addr × Value),
   Paired (fun (p:List Key × V) (q:List Key × Addr × Value)=>p.1=q.1/\H q.2.1=some (.tup (p.1.map kV))/\RelV p.2 q.2.2) kvs xs/\
   ∃o es ep,h.get? a=some o/\o.ExactDict/\o.data = .dict es ep/\es.toList=xs.map (entryOfKey (tupleKind (K4 P w)))/\(xs.map (·.1)).Nodup
 | .set S n=>h.SetOf (intKind P w) a S n
 | .ins C dx fs=>H dx=some (.own a)/\fs.length<=1000/\dx≠a/\h.get? a=some (PySem.W.instObj C dx)/\
   ∃mA,h.Ns1 dx mA/\(∀f,RelO (fs.lookup f) (mA f))/\PySem.Within mA (fs.map (·.1))
 | .own _=>∃o,h.get? a=some o
 | .xd fs=>∃mA,h.Ns1 a mA/\∀f,RelO (fs.lookup f) (mA f)
 | .rng lo hi=>∃t u v,h.get? a=some { cls:=.type "range",data:=.fields #[.int lo t,.int hi u,.int 1 v] }
 | .frz o u=>h.get? a=some o/\ObjOk H h a u
 | .tbl ps=>h.get? a=some { cls:=.none,data:=.fields ps }
 | .met f x=>h.get? a=some (PySem.W.methodObj (.ref f) (.ref x))
 | .ext φ=>φ h/\(∃o,h.get? a=some o)/\∀h1 h2:Heap,φ h1->(∀o,h1.get? a=some o->h2.get? a=some o)->φ h2
noncomputable def HOk (H:Hp) (h:Heap):Prop:=∀a o,H a=some o->ObjOk P w H h a o
end
section
variable {P:Program} {w:World} {H H':Hp} {h h':Heap} {a:Addr} {o:HO}
theorem ObjOk.lt (x:ObjOk P w H h a o):a < h.objs.size:=by
 cases o with
 | lst xs=>obtain ⟨_,_,_,_,e⟩:=x; exact Zn_ e
 | tup xs=>obtain ⟨_,_,_,p⟩:=x; exact p.lt
 | dK kvs=>obtain ⟨_,_,_,_,o,_,_,e,_⟩:=x; exact Zn_ e
 | dT kvs=>obtain ⟨_,_,_,_,o,_,_,e,_⟩:=x; exact Zn_ e
 | set S n=>obtain ⟨o,_,_,_,e,_⟩:=x; exact Zn_ e
 | ins C dx fs=>obtain ⟨_,_,_,e,_⟩:=x; exact Zn_ e
 | own y=>obtain ⟨_,e⟩:=x; exact Zn_ e
 | xd fs=>obtain ⟨_,⟨_,_,_,e,_⟩,_⟩:=x; exact Zn_ e
 | rng lo hi=>obtain ⟨_,_,_,e⟩:=x; exact Zn_ e
 | frz ob u=>obtain ⟨e,_⟩:=x; exact Zn_ e
 | tbl ps=>exact Zn_ (show h.get? a=some _ from x)
 | met f y=>exact Zn_ (show h.get? a=some _ from x)
 | ext φ=>obtain ⟨_,⟨_,e⟩,_⟩:=x; exact Zn_ e
theorem Paired.mapP {α β:Type} {F G:α->β->Prop}:∀{l₁:List α} {l₂:List β},Paired F l₁ l₂->(∀a b,F a b->G a b)->Paired G l₁ l₂
 | _,_,.nil,_=>.nil
 | _,_,.cons r t,f=>.cons (f _ _ r) (Paired.mapP t f)
theorem ObjOk.stay (x:ObjOk P w H h a o) (k:∀b u,(b=a\/H b=some (.own a))->h.get? b=some u->h'.get? b=some u)
  (ho:∀b,H b=some (.own a)->H' b=some (.own a)) (ht:∀b xs,H b=some (.tup xs)->H' b=some (.tup xs)):ObjOk P w H' h' a o:=by
 induction o with
 | lst xs=>obtain ⟨z,its,n,r,e⟩:=x; exact ⟨z,its,n,r,k _ _ (.inl rfl) e⟩
 | tup xs=>obtain ⟨z,its,r,ob,e,c⟩:=x; exact ⟨z,its,r,ob,k _ _ (.inl rfl) e,c⟩
 | dK kvs=>obtain ⟨z,y,vs,r,ob,es,ep,e,c⟩:=x; exact ⟨z,y,vs,r,ob,es,ep,k _ _ (.inl rfl) e,c⟩
 | dT kvs=>
  obtain ⟨z,y,xs,r,ob,es,ep,e,c⟩:=x
  exact ⟨z,y,xs,Paired.mapP r fun p q z=>⟨z.1,ht _ _ z.2.1,z.2.2⟩,ob,es,ep,k _ _ (.inl rfl) e,c⟩
 | set S n=>obtain ⟨ob,es,ep,t,e,c⟩:=x; exact ⟨ob,es,ep,t,k _ _ (.inl rfl) e,c⟩
 | ins C dx fs=>
  obtain ⟨d,z,ne,e,mA,⟨od,es,ep,e2,c⟩,r⟩:=x
  exact ⟨ho _ d,z,ne,k _ _ (.inl rfl) e,mA,⟨od,es,ep,k _ _ (.inr d) e2,c⟩,r⟩
 | own y=>obtain ⟨ob,e⟩:=x; exact ⟨ob,k _ _ (.inl rfl) e⟩
 | xd fs=>obtain ⟨mA,⟨od,es,ep,e,c⟩,r⟩:=x; exact ⟨mA,⟨od,es,ep,k _ _ (.inl rfl) e,c⟩,r⟩
 | rng lo hi=>obtain ⟨t,u,v,e⟩:=x; exact ⟨t,u,v,k _ _ (.inl rfl) e⟩
 | frz ob u ih=>obtain ⟨e,q⟩:=x; exact ⟨k _ _ (.inl rfl) e,ih q⟩
 | tbl ps=>
  have e:h.get? a=some { cls:=.none,data:=.fields ps }:=x
  show h'.get? a=some { cls:=.none,data:=.fields ps }
  exact k a _ (.inl rfl) e
 | met f y=>
  have e:h.get? a=some (PySem.W.methodObj (.ref f) (.ref y)):=x
  show h'.get? a=some (PySem.W.methodObj (.ref f) (.ref y))
  exact k a _ (.inl rfl) e
 | ext φ=>obtain ⟨p,⟨o,e⟩,st⟩:=x; exact ⟨st _ _ p fun o q=>k _ _ (.inl rfl) q,⟨o,k _ _ (.inl rfl) e⟩,st⟩
theorem HOk.lt (x:HOk P w H h) (e:H a=some o):a < h.objs.size:=(x a o e).lt
theorem HOk.fresh (x:HOk P w H h) (e:h.objs.size<=a):H a=none:=by
 cases q:H a with
 | none=>rfl
 | some u=>exact absurd (Zq_ (x.lt q) e) (Nat.lt_irrefl _)
theorem HOk.kept (x:HOk P w H h) (k:∀b u,h.get? b=some u->h'.get? b=some u):HOk P w H h':=fun a o e=>
 (x a o e).stay (fun b u _ q=>k b u q) (fun _ q=>q) fun _ _ q=>q
theorem HOk.laid (x:HOk P w H h) (k:∀b u,h.get? b=some u->h'.get? b=some u) (hp:h.objs.size<=a) (new:ObjOk P w (upd H a o) h' a o):HOk P w (upd H a o) h':=fun b u e=>by
 have hn:=x.fresh hp
 by_cases hb:b=a
 ·subst hb; rw [A3] at e; cases e; exact new
 ·rw [C6 hb] at e
  exact (x b u e).stay (fun c v _ q=>k c v q) (fun c q=>by rw [C6 (C7 q hn)]; exact q) fun c xs q=>by rw [C6 (C7 q hn)]; exact q
end
noncomputable def Rd (H:Hp) (a:Addr) (u:HO):Prop:=H a=some u\/∃o,H a=some (.frz o u)
theorem Rd.ok {P:Program} {w:World} {H:Hp} {h:Heap} {a:Addr} {u:HO} (r:Rd H a u) (x:HOk P w H h):ObjOk P w H h a u:=by
 rcases r with r | ⟨o,r⟩
 ·exact x a u r
 ·obtain ⟨_,q⟩:=x a _ r
  exact q
noncomputable def Mut:Option HO->Prop
 | some (.lst _)=>True
 | some (.dK _)=>True
 | some (.dT _)=>True
 | some (.set _ _)=>True
 | some (.ins _ _ _)=>True
 | some (.ext _)=>True
 | _=>False
section
variable {P:Program} {w:World} {H:Hp} {h h':Heap} {x e:Addr} {o':HO}
theorem HOk.write (ok:HOk P w H h) (mu:Mut (H x)) (he:e=x\/H e=some (.own x)) (k:∀b u,b≠e->h.get? b=some u->h'.get? b=some u) (heo:∃u,h'.get? e=some u)
  (new:ObjOk P w (upd H x o') h' x o'):HOk P w (upd H x o') h':=fun b u q=>by
 have nown:∀c y,H c=some (.own y)->c≠x:=fun c y r z=>by subst z; rw [r] at mu; exact mu
 have ntup:∀c xs,H c=some (.tup xs)->c≠x:=fun c xs r z=>by subst z; rw [r] at mu; exact mu
 by_cases hb:b=x
 ·subst hb; rw [A3] at q; cases q; exact new
 ·rw [C6 hb] at q
  by_cases hbe:b=e
  ·have q':H b=some (.own x):=by
    rcases he with z | z
    ·exact absurd (hbe.trans z) hb
    ·rw [hbe]; exact z
   rw [q] at q'; cases q'
   obtain ⟨v,hv⟩:=heo
   exact ⟨v,by rw [hbe]; exact hv⟩
  ·refine (ok b u q).stay (fun c v hc r=>k c v ?_ r) (fun c r=>by rw [C6 (nown c b r)]; exact r) fun c xs r=>by rw [C6 (ntup c xs r)]; exact r
   rcases hc with rfl | hc
   ·exact hbe
   ·rintro rfl
    rcases he with z | z
    ·exact nown c b hc z
    ·rw [hc] at z; cases z; exact hb rfl
end
structure Un (fs ex:List Addr) (H H':Hp) (h h':Heap):Prop where
 keep:∀b o,h.get? b=some o->H b=none->b∉fs->b∉ex->h'.get? b=some o
 slot:∀b o,h.get? b=some o->H b=none->b∈fs->b∉ex->∃sl,h'.get? b=some { o with slots:=sl }
 free:∀b o,h.get? b=some o->H b=none->b∉ex->H' b=none
 there:∀b o,h.get? b=some o->b∉ex->∃o',h'.get? b=some o'
 tups:∀b xs,H b=some (.tup xs)->H' b=some (.tup xs)
 frzs:∀b o u,H b=some (.frz o u)->H' b=some (.frz o u)
 tbls:∀b ps,H b=some (.tbl ps)->∃more,H' b=some (.tbl (ps++more))
section
variable {fs fs' ex ex':List Addr} {H H1 H2:Hp} {h h1 h2 h':Heap} {a x e:Addr} {o:HO}
theorem Un.any (u:Un fs ex H H1 h h1) {b:Addr} {ob:Obj} (q:h.get? b=some ob) (n:H b=none) (hx:b∉ex):∃sl,h1.get? b=some { ob with slots:=sl }:=by
 by_cases hb:b∈fs
 ·exact u.slot b ob q n hb hx
 ·exact ⟨ob.slots,u.keep b ob q n hb hx⟩
theorem Un.kept (k:∀b u,h.get? b=some u->h'.get? b=some u):Un fs ex H H h h':=
 ⟨fun b ob q _ _ _=>k b ob q,fun b ob q _ _ _=>⟨ob.slots,k b ob q⟩,fun _ _ _ n _=>n,fun b ob q _=>⟨ob,k b ob q⟩,fun _ _ q=>q,fun _ _ _ q=>q,fun _ ps q=>⟨#[],by rw [q]; simp⟩⟩
theorem Un.refl:Un fs ex H H h h:=Un.kept fun _ _ q=>q
theorem Un.laid (k:∀b u,h.get? b=some u->h'.get? b=some u) (hp:h.objs.size<=a) (hn:H a=none):Un fs ex H (upd H a o) h h' where
 keep:=fun b u q _ _ _=>k b u q
 slot:=fun b u q _ _ _=>⟨u.slots,k b u q⟩
 free:=fun b u q n _=>by rw [C6 (Zs_ (Zq_ (Zn_ q) hp))]; exact n
 there:=fun b u q _=>⟨u,k b u q⟩
 tups:=fun b xs q=>by rw [C6 (C7 q hn)]; exact q
 frzs:=fun b u xs q=>by rw [C6 (C7 q hn)]; exact q
 tbls:=fun b ps q=>⟨#[],by rw [C6 (C7 q hn),q]; simp⟩
theorem Un.write (mu:Mut (H x)) (he:e=x\/H e=some (.own x)) (k:∀b u,b≠e->h.get? b=some u->h'.get? b=some u) (heo:∃u,h'.get? e=some u):Un fs ex H (upd H x o) h h':=by
 have hx:∀b,H b=none->b≠x:=fun b n z=>by subst z; rw [n] at mu; exact mu
 have hb:∀b,H b=none->b≠e:=fun b n z=>by
  subst z
  rcases he with r | r
  ·exact hx b n r
  ·rw [n] at r; cases r
 have hm:∀b u,H b=some u->¬Mut (some u)->b≠x:=fun b u q nm z=>by subst z; rw [q] at mu; exact nm mu
 refine ⟨fun b u q n _ _=>k b u (hb b n) q,fun b u q n _ _=>⟨u.slots,k b u (hb b n) q⟩,fun b u q n _=>by rw [C6 (hx b n)]; exact n,fun b u q _=>?_,
  fun b xs q=>by rw [C6 (hm b _ q fun z=>z)]; exact q,fun b u xs q=>by rw [C6 (hm b _ q fun z=>z)]; exact q,fun b ps q=>⟨#[],by rw [C6 (hm b _ q fun z=>z),q]; simp⟩⟩
 by_cases hbe:b=e
 ·subst hbe; exact heo
 ·exact ⟨u,k b u hbe q⟩
end
noncomputable def trk (h:Heap) (H:Hp):List Addr:=(List.range h.objs.size).filter fun a=>(H a).isSome
noncomputable def Jo (h:Heap) (H:Hp):Heap:=PySem.W.hideAll h (trk h H)
theorem Te (h:Heap) (H:Hp):(Jo h H).objs.size=h.objs.size:=PySem.W.hideAll_size _ _
theorem Wo {h:Heap} {H:Hp} {b:Addr} {o:Obj} (e:h.get? b=some o) (n:H b=none):(Jo h H).get? b=some o:=
 PySem.W.hideAll_get _ e fun hm=>by
  have q:(H b).isSome=true:=(List.mem_filter.mp hm).2
  rw [n] at q; simp at q
theorem Abg {h:Heap} {H:Hp} {b:Addr} {o:Obj} (e:(Jo h H).get? b=some o):h.get? b=some o/\H b=none:=by
 have e':h.get? b=some o:=PySem.W.of_hideAll (trk h H) e
 refine ⟨e',?_⟩
 cases q:H b with
 | none=>rfl
 | some x=>
  have hm:b∈trk h H:=List.mem_filter.mpr ⟨List.mem_range.mpr (Heap.lt_size e'),by simp [q]⟩
  have z:(Jo h H).get? b=none:=PySem.W.hideAll_none (trk h H) hm
  rw [z] at e; cases e
structure Mod (K:Θf) (mg:Str->Option Value) (base:Heap):Prop where
 kin:K.In base
 glob:base.Ns mainGlobals mg
 blt:∃mb,base.Ns builtinsNs mb/\∀x:Str,x≠"__name__"->mb x=bootBuiltins x
 nolimit:base.NoLimit
structure Cx where
 prog:Program
 w:World
 K:Θf
 mg:Str->Option Value
 base:Heap
 A:Around
 N:List Str
 s₀:Shared
 H₀:Hp
 env:Env
 outer:List Env
 stack:List Env
 ex:List Addr
 fn:Str->Bool
 calm:Bool
 pn:List (Addr × Obj)
 xe:Value->Shared->Prop
noncomputable def frs (l:List Env):List Addr:=l.filterMap (·.frame)
noncomputable abbrev Cx.fs (X:Cx):List Addr:=frs X.outer
noncomputable def Vis (sc:Scope) (x:Str):Prop:=sc.names.lookup x=some .local\/sc.names.lookup x=some .cell\/sc.names.lookup x=some .free
noncomputable def Loc (sc:Scope) (x:Str):Prop:=sc.names.lookup x=some .local\/sc.names.lookup x=some .cell
noncomputable def Agv (env:Env) (h:Heap) (m:Str->Option Value) (x:Str) (u:Value):Prop:=
 (env.kindOf x=some .local/\m x=some u)\/((env.kindOf x=some .cell\/env.kindOf x=some .free)/\∃c,env.cells.lookup x=some c/\h.IsCell c (some u))
structure Cx.Ok (X:Cx):Prop where
 mod:Mod X.K X.mg X.base
 kind:X.env.scope.kind = .function
 glob:X.env.globals=mainGlobals
 blt:X.env.builtins=builtinsNs
 above:X.s₀.heap.objs.size<=X.env.locals
 inj:∀x y c,X.env.cells.lookup x=some c->X.env.cells.lookup y=some c->x=y
 has:∀x,(X.env.kindOf x=some .cell\/X.env.kindOf x=some .free)->∃c,X.env.cells.lookup x=some c
 cab:∀x c,X.fn x=true->X.env.cells.lookup x=some c->X.s₀.heap.objs.size<=c
 hd:X.calm=true->X.A.handled=none
 frames:X.A.frames=some X.stack
 stk:X.stack=X.outer\/(X.stack=X.env :: X.outer/\X.env.frame=some X.env.locals)
 exf:∀b∈X.ex,b≠X.env.locals/\∀x c,X.env.cells.lookup x=some c->c≠b
 bs:∀b o,X.base.get? b=some o->X.s₀.heap.get? b=some o/\X.H₀ b=none
 bsz:X.base.objs.size<=X.s₀.heap.objs.size
 noex:∀b o,X.base.get? b=some o->b∉X.ex
 exfs:∀b∈X.ex,b∉X.fs
 funs:X.s₀.heap.FunFrames X.base X.outer
 frf:∀b∈X.fs,X.H₀ b=none
structure Inv (X:Cx) (pins:List (Addr × Obj)) (σ:List (Option V)) (H:Hp) (s:Shared):Prop where
 ok:X.Ok
 os:s.os=X.s₀.os
 bare:AllBare s.gens
 base:Un X.fs X.ex X.H₀ H X.s₀.heap s.heap
 loc:∃m,s.heap.Ns X.env.locals m/\∀(i:Nat) (x:Str) (v:V),X.N[i]? = some x->σ[i]? = some (some v)->Vis X.env.scope x->∃u,RelV v u/\Agv X.env s.heap m x u
 cell:∀x c,X.env.cells.lookup x=some c->∃v,s.heap.IsCell c v
 free:H X.env.locals=none
 freeC:∀x c,X.env.cells.lookup x=some c->H c=none
 pin:∀p∈X.pn++pins,s.heap.get? p.1=some p.2/\H p.1=none/\p.1≠X.env.locals/\p.1∉X.fs/\∀v,p.2.data≠.cell v
 hok:HOk X.prog X.w H s.heap
 len:σ.length=X.N.length
section
variable {X:Cx} {pins:List (Addr × Obj)} {σ:List (Option V)} {H H':Hp} {s:Shared} {h':Heap}
theorem Cx.Ok.nofr (ok:X.Ok) {b:Addr} {o:Obj} (e:X.base.get? b=some o):b∉X.fs:=fun hb=>by
 have:=(ok.funs.mem hb).1
 rw [e] at this; cases this
theorem Inv.bs (I:Inv X pins σ H s):∀b o,X.base.get? b=some o->s.heap.get? b=some o/\H b=none:=fun b o e=>
 ⟨I.base.keep b o (I.ok.bs b o e).1 (I.ok.bs b o e).2 (I.ok.nofr e) (I.ok.noex b o e),I.base.free b o (I.ok.bs b o e).1 (I.ok.bs b o e).2 (I.ok.noex b o e)⟩
theorem Inv.bk (I:Inv X pins σ H s):∀b o,X.base.get? b=some o->s.heap.get? b=some o:=fun b o e=>(I.bs b o e).1
theorem Inv.mod (I:Inv X pins σ H s):Mod X.K X.mg X.base:=I.ok.mod
theorem Inv.kIn (I:Inv X pins σ H s):X.K.In s.heap:=I.ok.mod.kin.keeps I.bk
theorem Inv.lt (I:Inv X pins σ H s):X.env.locals < s.heap.objs.size:=let ⟨_,hn,_⟩:=I.loc; hn.lt
theorem Inv.sz (I:Inv X pins σ H s):X.s₀.heap.objs.size<=s.heap.objs.size:=Zo_ I.ok.above (Nat.le_of_lt I.lt)
theorem Inv.nofs (I:Inv X pins σ H s) {a:Addr} (h:s.heap.objs.size<=a):a∉X.fs:=fun hb=>by
 obtain ⟨_,o,ho,_⟩:=I.ok.funs.mem hb
 exact absurd (Zq_ (Zn_ ho) (Zo_ I.sz h)) (Nat.lt_irrefl _)
theorem Inv.cne (I:Inv X pins σ H s):∀x c,X.env.cells.lookup x=some c->c≠X.env.locals:=fun x c e z=>by
 obtain ⟨v,o,ho,hd⟩:=I.cell x c e
 obtain ⟨m,⟨o',es,ep,ho',hd',_⟩,_⟩:=I.loc
 rw [z,ho'] at ho; cases ho; rw [hd'] at hd; cases hd
theorem Inv.funs (I:Inv X pins σ H s):s.heap.FunFrames X.base X.outer:=by
 have all:∀(l:List Env),(∀b∈frs l,b∈X.fs)->X.s₀.heap.FunFrames X.base l->s.heap.FunFrames X.base l:=by
  intro l
  induction l with
  | nil=>intro _ _; trivial
  | cons env r ih=>
   intro hs hl
   obtain ⟨hk,⟨L,o,hf,hn,ho,hd⟩,hr⟩:=hl
   have hL:L∈X.fs:=hs L (by unfold frs; rw [List.filterMap_cons,hf]; exact Θc)
   obtain ⟨sl,e⟩:=I.base.slot L o ho (I.ok.frf L hL) hL fun z=>I.ok.exfs L z hL
   exact ⟨hk,⟨L,_,hf,hn,e,hd⟩,ih (fun b hb=>hs b (by unfold frs; rw [List.filterMap_cons,hf]; exact Θd _ hb)) hr⟩
 exact all X.outer (fun _ hb=>hb) I.ok.funs
theorem Inv.stack (I:Inv X pins σ H s):s.heap.FunFrames X.base X.stack:=by
 rcases I.ok.stk with e | ⟨e,hf⟩
 ·rw [e]; exact I.funs
 ·rw [e]
  obtain ⟨m,hn,_⟩:=I.loc
  refine .cons (by rw [I.ok.kind]; decide) hf hn ?_ I.funs
  exact Heap.get?_none_of_le (Zo_ I.ok.bsz I.ok.above)
theorem Inv.stkSub (I:Inv X pins σ H s):∀b∈frs X.stack,b∈X.env.locals :: X.fs:=fun b hb=>by
 rcases I.ok.stk with e | ⟨e,hf⟩
 ·rw [e] at hb; exact Θd _ hb
 ·rw [e] at hb
  unfold frs at hb
  rw [List.filterMap_cons,hf] at hb
  exact hb
theorem Inv.stkFree (I:Inv X pins σ H s):∀b∈frs X.stack,H b=none:=fun b hb=>by
 rcases Zg_.mp (I.stkSub b hb) with e | hb
 ·rw [e]; exact I.free
 ·obtain ⟨_,o,ho,_⟩:=I.ok.funs.mem hb
  exact I.base.free b o ho (I.ok.frf b hb) fun z=>I.ok.exfs b z hb
theorem Inv.step {g':Array GenState} {t':Nat} {d':Drawn} {ch:List Addr} (I:Inv X pins σ H s)
  (hch:∀b∈ch,(b∈X.ex\/X.s₀.heap.objs.size<=b)/\b≠X.env.locals/\(∀x c,X.env.cells.lookup x=some c->c≠b)/\∀p∈X.pn++pins,p.1≠b)
  (keep:∀b o,b≠X.env.locals->b∉X.fs->b∉ch->s.heap.get? b=some o->H b=none->h'.get? b=some o)
  (slot:∀b o,b≠X.env.locals->b∈X.fs->b∉ch->s.heap.get? b=some o->H b=none->∃sl,h'.get? b=some { o with slots:=sl }) (free:∀b o,b∉ch->s.heap.get? b=some o->H b=none->H' b=none)
  (there:∀b o,b∉ch->s.heap.get? b=some o->∃o',h'.get? b=some o')
  (tups:∀b xs,H b=some (.tup xs)->H' b=some (.tup xs)) (frzs:∀b o u,H b=some (.frz o u)->H' b=some (.frz o u)) (tbls:∀b ps,H b=some (.tbl ps)->∃more,H' b=some (.tbl (ps++more)))
  (ns:∀m,s.heap.Ns X.env.locals m->h'.Ns X.env.locals m) (hok:HOk X.prog X.w H' h') (hg:AllBare g') :
  Inv X pins σ H' { s with heap:=h',gens:=g',drawn:=d',toks:=t' }:=by
 have neL:∀b o,X.s₀.heap.get? b=some o->b≠X.env.locals:=fun b o e=>Zs_ (Zq_ (Zn_ e) I.ok.above)
 have neC:∀b o,X.s₀.heap.get? b=some o->b∉X.ex->b∉ch:=fun b o e hx hb=>by
  rcases (hch b hb).1 with z | z
  ·exact hx z
  ·exact absurd (Zq_ (Zn_ e) z) (Nat.lt_irrefl _)
 have cellK:∀x c,X.env.cells.lookup x=some c->∀v,s.heap.IsCell c v->h'.IsCell c v:=fun x c e v ⟨o,ho,hd⟩=>by
  have nch:c∉ch:=fun z=>(hch c z).2.2.1 x c e rfl
  by_cases hc:c∈X.fs
  ·obtain ⟨sl,q⟩:=slot c o (I.cne x c e) hc nch ho (I.freeC x c e)
   exact ⟨_,q,hd⟩
  ·exact ⟨o,keep c o (I.cne x c e) hc nch ho (I.freeC x c e),hd⟩
 refine ⟨I.ok,I.os,hg,⟨fun b o e n hb hx=>?_,fun b o e n hb hx=>?_,fun b o e n hx=>?_,fun b o e hx=>?_,fun b xs e=>tups b xs (I.base.tups b xs e),fun b o xs e=>frzs b o xs (I.base.frzs b o xs e),fun b ps e=>?_⟩,?_,fun x c e=>?_,?_,fun x c e=>?_,fun p hp=>?_,hok,I.len⟩
 ·exact keep b o (neL b o e) hb (neC b o e hx) (I.base.keep b o e n hb hx) (I.base.free b o e n hx)
 ·obtain ⟨sl,e1⟩:=I.base.slot b o e n hb hx
  obtain ⟨sl',e2⟩:=slot b _ (neL b o e) hb (neC b o e hx) e1 (I.base.free b o e n hx)
  exact ⟨sl',e2⟩
 ·obtain ⟨o',e1⟩:=I.base.there b o e hx
  exact free b o' (neC b o e hx) e1 (I.base.free b o e n hx)
 ·obtain ⟨o',e1⟩:=I.base.there b o e hx
  exact there b o' (neC b o e hx) e1
 ·obtain ⟨m1,e1⟩:=I.base.tbls b ps e
  obtain ⟨m2,e2⟩:=tbls b _ e1
  exact ⟨m1++m2,by rw [e2,Array.append_assoc]⟩
 ·obtain ⟨m,hn,hl⟩:=I.loc
  refine ⟨m,ns m hn,fun i x v e1 e2 e3=>?_⟩
  obtain ⟨u,r,l⟩:=hl i x v e1 e2 e3
  refine ⟨u,r,?_⟩
  rcases l with l | ⟨k,c,e,z⟩
  ·exact .inl l
  ·exact .inr ⟨k,c,e,cellK x c e _ z⟩
 ·obtain ⟨v,z⟩:=I.cell x c e
  exact ⟨v,cellK x c e v z⟩
 ·obtain ⟨m,⟨o,_,_,ho,_⟩,_⟩:=I.loc
  exact free _ o (fun z=>(hch _ z).2.1 rfl) ho I.free
 ·obtain ⟨v,o,ho,hd⟩:=I.cell x c e
  exact free c o (fun z=>(hch c z).2.2.1 x c e rfl) ho (I.freeC x c e)
 ·obtain ⟨e,n,ne,nf,d⟩:=I.pin p hp
  have nch:p.1∉ch:=fun z=>(hch p.1 z).2.2.2 p hp rfl
  exact ⟨keep p.1 p.2 ne nf nch e n,free p.1 p.2 nch e n,ne,nf,d⟩
theorem Inv.un {t':Nat} (I:Inv X pins σ H s) (u:Un X.fs [] H H' s.heap h') (hok:HOk X.prog X.w H' h'):Inv X pins σ H' { s with heap:=h',toks:=t' }:=by
 obtain ⟨m,⟨o,es,ep,ho,r⟩,_⟩:=id I.loc
 obtain ⟨sl,hL⟩:=u.any ho I.free (by simp)
 exact I.step (g':=s.gens) (d':=s.drawn) (ch:=[]) (fun _ z=>nomatch z) (fun b o _ hb _ e n=>u.keep b o e n hb (by simp)) (fun b o _ hb _ e n=>u.slot b o e n hb (by simp)) (fun b o _ e n=>u.free b o e n (by simp)) (fun b o _ e=>u.there b o e (by simp)) u.tups u.frzs u.tbls (fun m' hm=>by
  obtain ⟨o',es',ep',ho',r'⟩:=hm
  rw [ho] at ho'; cases ho'
  exact ⟨_,es',ep',hL,r'⟩) hok I.bare
theorem Inv.call {g':Array GenState} {t':Nat} {d':Drawn} {ch:List Addr} (I:Inv X pins σ H s) (u:Un (frs X.stack) ch H H' s.heap h') (hok:HOk X.prog X.w H' h') (hg:AllBare g')
  (hch:∀b∈ch,(b∈X.ex\/X.s₀.heap.objs.size<=b)/\b≠X.env.locals/\(∀x c,X.env.cells.lookup x=some c->c≠b)/\∀p∈X.pn++pins,p.1≠b) :
  Inv X pins σ H' { s with heap:=h',gens:=g',drawn:=d',toks:=t' }:=by
 obtain ⟨m,⟨o,es,ep,ho,r⟩,_⟩:=id I.loc
 obtain ⟨sl,hL⟩:=u.any ho I.free fun z=>(hch _ z).2.1 rfl
 exact I.step (ch:=ch) hch (fun b o hL hb hc e n=>u.keep b o e n (fun z=>(Zg_.mp (I.stkSub b z)).elim hL hb) hc) (fun b o _ _ hc e n=>u.any e n hc) (fun b o hc e n=>u.free b o e n hc) (fun b o hc e=>u.there b o e hc) u.tups u.frzs u.tbls (fun m' hm=>by
  obtain ⟨o',es',ep',ho',r'⟩:=hm
  rw [ho] at ho'; cases ho'
  exact ⟨_,es',ep',hL,r'⟩) hok hg
theorem Inv.turned {t':Nat} {it:Addr} (I:Inv X pins σ H s) (k:∀b o,b≠it->s.heap.get? b=some o->h'.get? b=some o) (hn:H it=none) (hL:it≠X.env.locals)
  (h1:it∈X.ex\/X.s₀.heap.objs.size<=it) (h2:∀x c,X.env.cells.lookup x=some c->c≠it) (h3:∀p∈X.pn++pins,p.1≠it):Inv X pins σ H { s with heap:=h',toks:=t' }:=by
 have nit:∀b u,H b=some u->b≠it:=fun b u e z=>by rw [z,hn] at e; cases e
 refine I.step (g':=s.gens) (d':=s.drawn) (ch:=[it]) (fun b hb=>?_) (fun b o _ _ hc e _=>k b o (fun z=>hc (by simp [z])) e) (fun b o _ _ hc e _=>⟨o.slots,k b o (fun z=>hc (by simp [z])) e⟩) (fun _ _ _ _ n=>n)
  (fun b o hc e=>⟨o,k b o (fun z=>hc (by simp [z])) e⟩) (fun _ _ e=>e) (fun _ _ _ e=>e) (fun b ps e=>⟨#[],by rw [e]; simp⟩) (fun m hm=>?_) (fun b u e=>?_) I.bare
 ·have e:b=it:=by simpa using hb
  subst e
  exact ⟨h1,hL,h2,h3⟩
 ·obtain ⟨o,es,ep,ho,r⟩:=hm
  exact ⟨o,es,ep,k _ o (Ne.symm hL) ho,r⟩
 ·refine (I.hok b u e).stay (fun c v hc q=>k c v ?_ q) (fun _ q=>q) fun _ _ q=>q
  rcases hc with z | z
  ·rw [z]; exact nit b u e
  ·exact nit c _ z
theorem Inv.tok (I:Inv X pins σ H s) (t:Nat):Inv X pins σ H { s with toks:=t }:=I.un (h':=s.heap) (t':=t) Un.refl I.hok
theorem Inv.kept {t':Nat} (I:Inv X pins σ H s) (k:∀b u,s.heap.get? b=some u->h'.get? b=some u):Inv X pins σ H { s with heap:=h',toks:=t' }:=I.un (Un.kept k) (I.hok.kept k)
theorem Inv.laid {a:Addr} {o:HO} {t':Nat} (I:Inv X pins σ H s) (k:∀b u,s.heap.get? b=some u->h'.get? b=some u) (hp:s.heap.objs.size<=a) (new:ObjOk X.prog X.w (upd H a o) h' a o) :
  Inv X pins σ (upd H a o) { s with heap:=h',toks:=t' }:=I.un (Un.laid k hp (I.hok.fresh hp)) (I.hok.laid k hp new)
theorem Inv.write {x e:Addr} {o:HO} {t':Nat} (I:Inv X pins σ H s) (mu:Mut (H x)) (he:e=x\/H e=some (.own x)) (k:∀b u,b≠e->s.heap.get? b=some u->h'.get? b=some u) (heo:∃u,h'.get? e=some u)
  (new:ObjOk X.prog X.w (upd H x o) h' x o):Inv X pins σ (upd H x o) { s with heap:=h',toks:=t' }:=I.un (Un.write mu he k heo) (I.hok.write mu he k heo new)
theorem Inv.weak {σ':List (Option V)} (I:Inv X pins σ H s) (hl:σ'.length=σ.length) (w:∀(i:Nat) v,σ'[i]? = some (some v)->σ[i]? = some (some v)):Inv X pins σ' H s:=
 ⟨I.ok,I.os,I.bare,I.base,let ⟨m,hn,hl'⟩:=I.loc; ⟨m,hn,fun i x v e1 e2 e3=>hl' i x v e1 (w i v e2) e3⟩,I.cell,I.free,I.freeC,I.pin,I.hok,hl.trans I.len⟩
theorem Inv.pins_of {pins':List (Addr × Obj)} (I:Inv X pins σ H s) (h:∀p∈pins',s.heap.get? p.1=some p.2/\H p.1=none/\p.1≠X.env.locals/\p.1∉X.fs/\∀v,p.2.data≠.cell v):Inv X pins' σ H s:=
 ⟨I.ok,I.os,I.bare,I.base,I.loc,I.cell,I.free,I.freeC,fun p hp=>(Θa hp).elim (fun z=>I.pin p (Zt_ _ z)) (h p),I.hok,I.len⟩
theorem Mh {N:List Str} (hN:N.Nodup) {i j:Nat} {x:Str} (a:N[i]? = some x) (b:N[j]? = some x):i=j:=by
 obtain ⟨h1,e1⟩:=Ze_.mp a
 obtain ⟨h2,e2⟩:=Ze_.mp b
 exact (List.getElem_inj hN).mp (e1.trans e2.symm)
theorem Ja {M:Model} {A:Around} {E:Value->Shared->Prop} {i:Nat} {x:Str} {v:V} {u:Value} {Q:Unit->Shared->Prop} (I:Inv X pins σ H s) (hN:X.N.Nodup) (hi:X.N[i]? = some x) (hx:Loc X.env.scope x) (r:RelV v u)
  (h:∀s',Inv X pins (σ.set i (some v)) H s'->(∃a,Heap.SameBut a s.heap s'.heap/\(a=X.env.locals\/X.env.cells.lookup x=some a))->Q () s') (hf:X.fn x=true\/X.env.scope.names.lookup x=some .local:=by first | exact .inl rfl | exact .inr rfl | assumption):wpAny M A (storeName X.env x u) Q E s:=by
 obtain ⟨m,hn,hl⟩:=id I.loc
 have hcls:(X.env.scope.kind == .class || (X.env.scope.kind == .module && X.env.locals != X.env.globals))=false:=by rw [I.ok.kind]; rfl
 have hiσ:i < σ.length:=by rw [I.len]; exact (Ze_.mp hi).1
 have cne:=I.cne
 have tracked:∀{a:Addr} {h':Heap},(∃o,s.heap.get? a=some o/\H a=none)->Heap.SameBut a s.heap h'->HOk X.prog X.w H h':=fun {a h'} ha hs b ob e=>by
  obtain ⟨_,_,hfree⟩:=ha
  refine (I.hok b ob e).stay (fun c w' hc q=>(hs.2 c ?_).trans q) (fun _ q=>q) fun _ _ q=>q
  rintro rfl
  rcases hc with rfl | hc
  ·rw [hfree] at e; cases e
  ·rw [hfree] at hc; cases hc
 rcases hx with hk | hk
 ·refine wpAny_storeName_local hk hn (fun h' hn' hs=>?_) hcls
  obtain ⟨oL,_,_,hoL,_⟩:=id hn
  refine h _ ⟨I.ok,I.os,I.bare,⟨fun b o e n hb hx=>?_,fun b o e n hb hx=>?_,I.base.free,fun b o e hx=>?_,I.base.tups,I.base.frzs,I.base.tbls⟩,⟨_,hn',fun j y v' e1 e2 e3=>?_⟩,fun y c e=>?_,I.free,I.freeC,fun p hp=>?_,tracked ⟨oL,hoL,I.free⟩ hs,by simpa using I.len⟩ ⟨_,hs,.inl rfl⟩
  ·exact (hs.2 b (Zs_ (Zq_ (Zn_ e) I.ok.above))).trans (I.base.keep b o e n hb hx)
  ·obtain ⟨sl,e1⟩:=I.base.slot b o e n hb hx
   exact ⟨sl,(hs.2 b (Zs_ (Zq_ (Zn_ e) I.ok.above))).trans e1⟩
  ·obtain ⟨o',e1⟩:=I.base.there b o e hx
   exact ⟨o',(hs.2 b (Zs_ (Zq_ (Zn_ e) I.ok.above))).trans e1⟩
  ·by_cases hj:j=i
   ·subst hj
    rw [hi] at e1; cases e1
    rw [List.getElem?_set_self hiσ] at e2
    cases e2
    exact ⟨u,r,.inl ⟨hk,by simp⟩⟩
   ·rw [List.getElem?_set_ne (Ne.symm hj)] at e2
    obtain ⟨u',r',q⟩:=hl j y v' e1 e2 e3
    refine ⟨u',r',?_⟩
    rcases q with ⟨k,e⟩ | ⟨k,c,e,z⟩
    ·refine .inl ⟨k,?_⟩
     have:y≠x:=fun e=>hj (Mh hN e1 (e ▸ hi))
     simp [this,e]
    ·exact .inr ⟨k,c,e,z.sameBut hs (cne y c e)⟩
  ·obtain ⟨w',z⟩:=I.cell y c e
   exact ⟨w',z.sameBut hs (cne y c e)⟩
  ·obtain ⟨e,n,ne,nf,d⟩:=I.pin p hp
   exact ⟨(hs.2 p.1 ne).trans e,n,ne,nf,d⟩
 ·have hfn:X.fn x=true:=by
   rcases hf with z | z
   ·exact z
   ·rw [z] at hk; cases hk
  obtain ⟨c,hc⟩:=I.ok.has x (.inl hk)
  obtain ⟨w',z⟩:=I.cell x c hc
  refine wpAny_storeName_cell I.ok.kind hk hc z (fun h' hc' hs=>?_)
  obtain ⟨oc,hoc,hocd⟩:=id z
  refine h { s with heap:=h' } ⟨I.ok,I.os,I.bare,⟨fun b o e n hb hx=>?_,fun b o e n hb hx=>?_,I.base.free,fun b o e hx=>?_,I.base.tups,I.base.frzs,I.base.tbls⟩,⟨m,hn.sameBut hs (Ne.symm (cne x c hc)),fun j y v' e1 e2 e3=>?_⟩,fun y c' e=>?_,I.free,I.freeC,fun p hp=>?_,tracked ⟨oc,hoc,I.freeC x c hc⟩ hs,by simpa using I.len⟩ ⟨c,hs,.inr hc⟩
  ·exact (hs.2 b (Zs_ (Zq_ (Zn_ e) (I.ok.cab x c hfn hc)))).trans (I.base.keep b o e n hb hx)
  ·obtain ⟨sl,e1⟩:=I.base.slot b o e n hb hx
   exact ⟨sl,(hs.2 b (Zs_ (Zq_ (Zn_ e) (I.ok.cab x c hfn hc)))).trans e1⟩
  ·obtain ⟨o',e1⟩:=I.base.there b o e hx
   exact ⟨o',(hs.2 b (Zs_ (Zq_ (Zn_ e) (I.ok.cab x c hfn hc)))).trans e1⟩
  ·by_cases hj:j=i
   ·subst hj
    rw [hi] at e1; cases e1
    rw [List.getElem?_set_self hiσ] at e2
    cases e2
    exact ⟨u,r,.inr ⟨.inl hk,c,hc,hc'⟩⟩
   ·rw [List.getElem?_set_ne (Ne.symm hj)] at e2
    obtain ⟨u',r',q⟩:=hl j y v' e1 e2 e3
    refine ⟨u',r',?_⟩
    rcases q with q | ⟨k,c',e,z'⟩
    ·exact .inl q
    ·refine .inr ⟨k,c',e,z'.sameBut hs ?_⟩
     rintro rfl
     exact hj (Mh hN e1 (I.ok.inj _ _ _ e hc ▸ hi))
  ·by_cases hcc:c' = c
   ·subst hcc; exact ⟨_,hc'⟩
   ·obtain ⟨w2,z2⟩:=I.cell y c' e
    exact ⟨w2,z2.sameBut hs hcc⟩
  ·obtain ⟨e,n,ne,nf,d⟩:=I.pin p hp
   refine ⟨(hs.2 p.1 ?_).trans e,n,ne,nf,d⟩
   intro q
   rw [q,hoc] at e
   have q':oc=p.2:=Θo e
   exact d w' (by rw [<-q']; exact hocd)
theorem Cg {M:Model} {A:Around} {E:Value->Shared->Prop} {i:Nat} {x:Str} {v:V} {u:Value} {Q:Unit->Shared->Prop} (I:Inv X pins σ H s) (hN:X.N.Nodup) (hi:X.N[i]? = some x) (hx:Loc X.env.scope x) (r:RelV v u)
  (h:∀s',Inv X pins (σ.set i (some v)) H s'->Q () s') (hf:X.fn x=true\/X.env.scope.names.lookup x=some .local:=by first | exact .inl rfl | exact .inr rfl | assumption):wpAny M A (storeName X.env x u) Q E s:=
 Ja I hN hi hx r (fun s' I' _=>h s' I') hf
theorem Inv.call' {s':Shared} {ch:List Addr} (I:Inv X pins σ H s) (ho:s'.os=s.os) (u:Un (frs X.stack) ch H H' s.heap s'.heap) (hok:HOk X.prog X.w H' s'.heap) (hg:AllBare s'.gens)
  (hch:∀b∈ch,(b∈X.ex\/X.s₀.heap.objs.size<=b)/\b≠X.env.locals/\(∀x c,X.env.cells.lookup x=some c->c≠b)/\∀p∈X.pn++pins,p.1≠b):Inv X pins σ H' s':=by
 obtain ⟨h',g',d',t',o'⟩:=s'
 have e:o' = s.os:=ho
 subst e
 exact I.call (g':=g') (t':=t') (d':=d') u hok hg hch
end
noncomputable abbrev XK:=Value->Option Addr->Hp->Prop
noncomputable abbrev St:=List (Option V)
noncomputable abbrev VK:=V->Hp->Prop
noncomputable abbrev TE:=St->Hp->VK->Prop
noncomputable abbrev TT:=St->Hp->(Bool->Hp->Prop)->Prop
noncomputable abbrev TA:=St->Hp->(List V->Hp->Prop)->Prop
structure Ends where
 nx:St->Hp->Prop
 rt:VK
 bk:St->Hp->Prop:=fun _ _=>False
 ct:St->Hp->Prop:=fun _ _=>False
noncomputable abbrev TS:=Ends->St->Hp->Prop
noncomputable def EP (X:Cx) (pins:List (Addr × Obj)) (σ:St) (Q:VK) (u:Value) (s':Shared):Prop:=∃v H',Inv X pins σ H' s'/\RelV v u/\Q v H'
noncomputable def TP (X:Cx) (pins:List (Addr × Obj)) (σ:St) (Q:Bool->Hp->Prop) (b:Bool) (s':Shared):Prop:=∃H',Inv X pins σ H' s'/\Q b H'
noncomputable def AP (X:Cx) (pins:List (Addr × Obj)) (σ:St) (Q:List V->Hp->Prop) (us:List Value) (s':Shared):Prop:=∃vs H',Inv X pins σ H' s'/\Vals vs us/\Q vs H'
noncomputable def SP (X:Cx) (pins:List (Addr × Obj)) (D:Ends) (f:Flow) (s':Shared):Prop:=
 match f with
 | .next=>∃σ' H',Inv X pins σ' H' s'/\D.nx σ' H'
 | .brk=>∃σ' H',Inv X pins σ' H' s'/\D.bk σ' H'
 | .cont=>∃σ' H',Inv X pins σ' H' s'/\D.ct σ' H'
 | .ret u=>∃v σ' H',Inv X pins σ' H' s'/\RelV v u/\D.rt v H'
noncomputable def PE (X:Cx) (e:Expr) (t:TE):Prop:=
 ∀(pins:List (Addr × Obj)) (s:Shared) (σ:St) (H:Hp) (Q:VK),Inv X pins σ H s->t σ H Q->wpAny (model X.prog X.w) X.A (eval e X.env) (EP X pins σ Q) X.xe s
noncomputable def PT (X:Cx) (e:Expr) (t:TT):Prop:=
 ∀(pins:List (Addr × Obj)) (s:Shared) (σ:St) (H:Hp) (Q:Bool->Hp->Prop),Inv X pins σ H s->t σ H Q->wpAny (model X.prog X.w) X.A (isTrue e X.env (eval e X.env)) (TP X pins σ Q) X.xe s
noncomputable def PW (X:Cx) (e:Expr) (t:TT):Prop:=
 ∀(whole:Sem Value) (pins:List (Addr × Obj)) (s:Shared) (σ:St) (H:Hp) (Q:Bool->Hp->Prop),Inv X pins σ H s->t σ H Q->wpAny (model X.prog X.w) X.A (isTrue e X.env whole) (TP X pins σ Q) X.xe s
theorem PW.pt {X:Cx} {e:Expr} {t:TT} (h:PW X e t):PT X e t:=h _
noncomputable def PA (X:Cx) (es:List Expr) (t:TA):Prop:=
 ∀(pos:Pos) (pins:List (Addr × Obj)) (s:Shared) (σ:St) (H:Hp) (Q:List V->Hp->Prop),Inv X pins σ H s->t σ H Q->wpAny (model X.prog X.w) X.A (spliced (backTo pos (starEach es X.env))) (AP X pins σ Q) X.xe s
noncomputable def PS (X:Cx) (st:Stmt) (t:TS):Prop:=
 ∀(pins:List (Addr × Obj)) (s:Shared) (σ:St) (H:Hp) (D:Ends),Inv X pins σ H s->t D σ H->wpAny (model X.prog X.w) X.A (exec st X.env) (SP X pins D) X.xe s
noncomputable def PSs (X:Cx) (st:List Stmt) (t:TS):Prop:=
 ∀(pins:List (Addr × Obj)) (s:Shared) (σ:St) (H:Hp) (D:Ends),Inv X pins σ H s->t D σ H->wpAny (model X.prog X.w) X.A (execs st X.env) (SP X pins D) X.xe s
theorem thn {α:Type} {t:Sem α} {Q Q':α->Shared->Prop} {M:Model} {A:Around} {E:Value->Shared->Prop} {s:Shared} (h:wpAny M A t Q E s) (hQ:∀a s,Q a s->Q' a s):wpAny M A t Q' E s:=wpAny_mono h hQ fun _ _ x=>x
section
variable {X:Cx}
noncomputable def Agr (i:Nat):TE:=fun σ H Q=>∃v,σ[i]? = some (some v)/\Q v H
noncomputable def tC (v:V):TE:=fun _ H Q=>Q v H
theorem Aek {i:Nat} {x:Str} {pos:Pos} (hN:X.N[i]? = some x) (hv:Vis X.env.scope x) (hd:(x == ("__debug__":Str))=false:=by decide) (hcd:(x == ("__classdict__":Str))=false:=by decide):PE X (.Name x pos) (Agr i):=by
 intro pins s σ H Q I h
 obtain ⟨v,e,h⟩:=h
 obtain ⟨m,hn,hl⟩:=I.loc
 obtain ⟨u,r,l⟩:=hl i x v hN e hv
 have fin:EP X pins σ Q u s:=⟨v,H,I,r,h⟩
 rcases l with ⟨hk,hm⟩ | ⟨hk,c,hc,hcell⟩
 ·exact wpAny_Name (wpAny_loadName_local I.ok.kind hk hn hm fin) hd
 ·rcases hk with hk | hk
  ·exact wpAny_Name (wpAny_loadName_cell I.ok.kind hk hc hcell fin) hd
  ·exact wpAny_Name (wpAny_loadName_free I.ok.kind hk hc hcell fin hcd) hd
theorem A5 {i j pos}:PE X (.Constant (.int i) j pos) (tC (.int i)):=fun _ _ _ H _ I h=>wpAny_Constant_int ⟨.int i,H,I.tok _,⟨_,rfl⟩,h⟩
theorem Q7 {b j pos}:PE X (.Constant (.bool b) j pos) (tC (.bl b)):=fun _ _ _ H _ I h=>Constant_bool ⟨.bl b,H,I,rfl,h⟩
theorem F5 {j pos}:PE X (.Constant .none j pos) (tC .non):=fun _ _ _ H _ I h=>Constant_none ⟨.non,H,I,rfl,h⟩
theorem B9 {x j pos}:PE X (.Constant (.str x) j pos) (tC (.str x)):=fun _ _ _ H _ I h=>Calls.Constant_str ⟨.str x,H,I.tok _,⟨_,rfl⟩,h⟩
noncomputable def Gl (X:Cx) (x:Str):Prop:=X.env.kindOf x=some .globalImplicit
theorem Eo {E:Value->Shared->Prop} {pins:List (Addr × Obj)} {s:Shared} {σ:St} {H:Hp} {x:Str} {u:Value} {pos:Pos} {Q:Value->Shared->Prop} (I:Inv X pins σ H s) (hg:Gl X x) (hm:X.mg x=some u) (h:Q u s)
  (hd:(x == ("__debug__":Str))=false:=by decide):wpAny (model X.prog X.w) X.A (eval (.Name x pos) X.env) Q E s:=
 Calls.Name_function_global I.ok.kind hg (Calls.loadGlobal_global (by rw [I.ok.glob]; exact I.mod.glob.keeps I.bk) hm h) hd
theorem Al {E:Value->Shared->Prop} {pins:List (Addr × Obj)} {s:Shared} {σ:St} {H:Hp} {x:Str} {u:Value} {pos:Pos} {Q:Value->Shared->Prop} (I:Inv X pins σ H s) (hg:Gl X x) (hm:X.mg x=none) (hv:bootBuiltins x=some u) (h:Q u s)
  (hn:x≠"__name__":=by decide) (hd:(x == ("__debug__":Str))=false:=by decide):wpAny (model X.prog X.w) X.A (eval (.Name x pos) X.env) Q E s:=by
 obtain ⟨mb,h1,h2⟩:=I.mod.blt
 exact Calls.Name_function_global I.ok.kind hg (Calls.loadGlobal_builtin (by rw [I.ok.glob]; exact I.mod.glob.keeps I.bk) hm (by rw [I.ok.blt]; exact h1.keeps I.bk) ((h2 x hn).trans hv) h) hd
theorem L8 {x:Str} {v:V} {u:Value} {pos:Pos} (hg:Gl X x) (hm:X.mg x=some u) (r:RelV v u) (hd:(x == ("__debug__":Str))=false:=by decide):PE X (.Name x pos) (tC v):=
 fun _ _ _ H _ I h=>Eo I hg hm ⟨v,H,I,r,h⟩ hd
theorem Jx {x:Str} {v:V} {u:Value} {pos:Pos} (hg:Gl X x) (hm:X.mg x=none) (hv:bootBuiltins x=some u) (r:RelV v u) (hn:x≠"__name__":=by decide) (hd:(x == ("__debug__":Str))=false:=by decide):PE X (.Name x pos) (tC v):=
 fun _ _ _ H _ I h=>Al I hg hm hv ⟨v,H,I,r,h⟩ hn hd
variable {a b:Expr} {ta tb:TE} {pos:Pos}
noncomputable def tB (t:TE):TT:=fun σ H Q=>t σ H fun x H1=>∃c,x = .bl c/\Q c H1
theorem K8 {e:Expr} {t:TE} (h:PE X e t) (he:∀whole,isTrue e X.env whole=(do let v <-whole; standAt e.pos; holding [v] (truthy v)):=by intro _; rfl):PT X e (tB t):=by
 intro pins s σ H Q I hw
 refine isTrue_plain (thn (h pins s σ H _ I hw) fun v s1 ⟨x,H1,I1,r1,q1⟩=>?_) (he _)
 obtain ⟨d,rfl,q⟩:=q1
 cases r1
 exact wpAny_truthy_bool ⟨H1,I1,q⟩
variable {tA tB':TT} {rest:List Expr}
noncomputable def Ahd (t u:TT):TT:=fun σ H Q=>t σ H fun c H1=>if c=true then u σ H1 Q else Q false H1
noncomputable def tOr (t u:TT):TT:=fun σ H Q=>t σ H fun c H1=>if c=true then Q true H1 else u σ H1 Q
noncomputable def Ahl (t:TT):TT:=fun σ H Q=>t σ H fun c H1=>Q (!c) H1
theorem Ka (ha:PT X a tA):PW X (.BoolOp .And [a] pos) tA:=by
 intro wh pins s σ H Q I h
 refine isTrue_and (thn (ha pins s σ H Q I h) fun c s1 e=>?_)
 cases c with
 | true=>exact isTrue_and_nil e
 | false=>exact e
theorem Db (ha:PT X a tA):PW X (.BoolOp .Or [a] pos) tA:=by
 intro wh pins s σ H Q I h
 refine isTrue_or (thn (ha pins s σ H Q I h) fun c s1 e=>?_)
 cases c with
 | false=>exact isTrue_or_nil e
 | true=>exact e
theorem Pd (ha:PT X a tA) (hb:PW X (.BoolOp .And (b :: rest) pos) tB'):PW X (.BoolOp .And (a :: b :: rest) pos) (Ahd tA tB'):=by
 intro wh pins s σ H Q I h
 refine isTrue_and (thn (ha pins s σ H _ I h) fun c s1 ⟨H1,I1,q1⟩=>?_)
 cases c with
 | true=>exact hb wh pins s1 σ H1 Q I1 q1
 | false=>exact ⟨H1,I1,q1⟩
theorem Bp (ha:PT X a tA) (hb:PW X (.BoolOp .Or (b :: rest) pos) tB'):PW X (.BoolOp .Or (a :: b :: rest) pos) (tOr tA tB'):=by
 intro wh pins s σ H Q I h
 refine isTrue_or (thn (ha pins s σ H _ I h) fun c s1 ⟨H1,I1,q1⟩=>?_)
 cases c with
 | true=>exact ⟨H1,I1,q1⟩
 | false=>exact hb wh pins s1 σ H1 Q I1 q1
theorem R9 (ha:PT X a tA):PT X (.UnaryOp .Not a pos) (Ahl tA):=by
 intro pins s σ H Q I h
 exact isTrue_not (ha pins s σ H (fun c H1=>Q (!c) H1) I h)
noncomputable def Agh (ta tb:TE):TE:=fun σ H Q=>ta σ H fun x H1=>∃c,x = .bl c/\if c=true then tb σ H1 Q else Q (.bl false) H1
noncomputable def Ahm (ta tb:TE):TE:=fun σ H Q=>ta σ H fun x H1=>∃c,x = .bl c/\if c=true then Q (.bl true) H1 else tb σ H1 Q
theorem Pb {op} {t:TE} (h:PE X a t):PE X (.BoolOp op [a] pos) t:=fun pins s σ H Q I hw=>BoolOp_one (h pins s σ H Q I hw)
theorem Yh (ha:PE X a ta) (hb:PE X (.BoolOp .And (b :: rest) pos) tb):PE X (.BoolOp .And (a :: b :: rest) pos) (Agh ta tb):=by
 intro pins s σ H Q I h
 refine BoolOp_and (thn (ha pins s σ H _ I h) fun v s1 ⟨x,H1,I1,r1,q1⟩=>?_)
 obtain ⟨c,rfl,q1⟩:=q1
 cases r1
 refine wpAny_truthy_bool ?_
 cases c with
 | true=>exact hb pins s1 σ H1 Q I1 q1
 | false=>exact ⟨.bl false,H1,I1,rfl,q1⟩
theorem Af6 (ha:PE X a ta) (hb:PE X (.BoolOp .Or (b :: rest) pos) tb):PE X (.BoolOp .Or (a :: b :: rest) pos) (Ahm ta tb):=by
 intro pins s σ H Q I h
 refine BoolOp_or (thn (ha pins s σ H _ I h) fun v s1 ⟨x,H1,I1,r1,q1⟩=>?_)
 obtain ⟨c,rfl,q1⟩:=q1
 cases r1
 refine wpAny_truthy_bool ?_
 cases c with
 | false=>exact hb pins s1 σ H1 Q I1 q1
 | true=>exact ⟨.bl true,H1,I1,rfl,q1⟩
end
noncomputable def SqL (K:Θf) (H:Hp) (a:Addr) (xs:List V):Prop:=
 Rd H a (.lst xs)\/
  ∃(o:Obj) (its:Array Value) (n:Nat),K.lookup a=some o/\o.cls = .type "list"/\o.dict=none/\o.data = .seq its n/\its.size<=sizeLine/\Vals xs its.toList
noncomputable def SqT (K:Θf) (H:Hp) (a:Addr) (xs:List V):Prop:=
 Rd H a (.tup xs)\/
  ∃(o:Obj) (its:Array Value) (n:Nat),K.lookup a=some o/\o.cls = .type "tuple"/\o.data = .seq its n/\its.size<=sizeLine/\Vals xs its.toList
noncomputable def Agx:Value->Option V
 | .none=>some .non
 | .bool b=>some (.bl b)
 | .int i _=>some (.int i)
 | .str x _=>some (.str x)
 | .bytes b _=>some (.byt b)
 | .float b _=>some (.flt b)
 | .ref a=>some (.ref a)
 | .type n=>some (.ty n)
 | _=>none
theorem RelV.abs {x:V} {u:Value} (r:RelV x u):Agx u=some x:=by
 cases x with
 | non=>cases r; rfl
 | bl _=>cases r; rfl
 | int _=>obtain ⟨t,rfl⟩:=r; rfl
 | str _=>obtain ⟨t,rfl⟩:=r; rfl
 | byt _=>obtain ⟨t,rfl⟩:=r; rfl
 | flt _=>obtain ⟨t,rfl⟩:=r; rfl
 | ref _=>cases r; rfl
 | ty _=>cases r; rfl
theorem RelV.inj {x y:V} {u:Value} (r:RelV x u) (q:RelV y u):x=y:=Θo (r.abs.symm.trans q.abs)
theorem Vals.inj:∀{xs ys:List V} {us:List Value},Vals xs us->Vals ys us->xs=ys
 | _,_,_,.nil,.nil=>rfl
 | _,_,_,.cons r t,.cons r' t'=>by rw [r.inj r',Vals.inj t t']
section
variable {X:Cx} {pins:List (Addr × Obj)} {σ:St} {H:Hp} {s:Shared} {a:Addr} {xs ys:List V}
theorem SqL.of {K:Θf} (h:H a=some (.lst xs)):SqL K H a xs:=.inl (.inl h)
theorem SqT.of {K:Θf} (h:H a=some (.tup xs)):SqT K H a xs:=.inl (.inl h)
theorem Inv.list (I:Inv X pins σ H s) (h:SqL X.K H a xs):∃its:List Value,Vals xs its/\PlainL s.heap a its.toArray/\xs.length<=sizeLine:=by
 rcases h with h | ⟨o,its,n,hk,hc,hd,hs,hz,r⟩
 ·obtain ⟨z,its,n,r,e⟩:=h.ok I.hok
  exact ⟨its,r,⟨_,n,e,rfl,rfl,rfl⟩,z⟩
 ·refine ⟨its.toList,r,⟨o,n,I.kIn a o hk,hc,hd,by simpa using hs⟩,?_⟩
  have e:=r.length
  simp only [Array.length_toList] at e
  omega
theorem Inv.tuple (I:Inv X pins σ H s) (h:SqT X.K H a xs):∃its:List Value,Vals xs its/\IsTup s.heap a its.toArray/\xs.length<=sizeLine:=by
 rcases h with h | ⟨o,its,n,hk,hc,hs,hz,r⟩
 ·obtain ⟨z,its,r,p⟩:=h.ok I.hok
  exact ⟨its,r,p,z⟩
 ·refine ⟨its.toList,r,⟨o,I.kIn a o hk,hc,n,by simpa using hs⟩,?_⟩
  have e:=r.length
  simp only [Array.length_toList] at e
  omega
theorem Inv.list_inj (I:Inv X pins σ H s) (h:SqL X.K H a xs) (h':SqL X.K H a ys):xs=ys:=by
 obtain ⟨its,r,⟨o,n,e,_,_,d⟩,_⟩:=I.list h
 obtain ⟨its',r',⟨o',n',e',_,_,d'⟩,_⟩:=I.list h'
 rw [e] at e'; cases e'
 rw [d] at d'
 injection d' with d1 _
 have:its=its':=by simpa using congrArg Array.toList d1
 subst this
 exact r.inj r'
theorem Inv.tuple_inj (I:Inv X pins σ H s) (h:SqT X.K H a xs) (h':SqT X.K H a ys):xs=ys:=by
 obtain ⟨its,r,⟨o,e,_,n,d⟩,_⟩:=I.tuple h
 obtain ⟨its',r',⟨o',e',_,n',d'⟩,_⟩:=I.tuple h'
 rw [e] at e'; cases e'
 rw [d] at d'
 injection d' with d1 _
 have:its=its':=by simpa using congrArg Array.toList d1
 subst this
 exact r.inj r'
end
noncomputable abbrev Cx.wish (X:Cx) (E:Value->Shared->Prop):Cx:={ X with xe:=E }
noncomputable abbrev Cx.nox (X:Cx):Cx:=X.wish fun _ _=>False
theorem Cx.Ok.wish {X:Cx} (ok:X.Ok) (E:Value->Shared->Prop):(X.wish E).Ok:=
 ⟨ok.mod,ok.kind,ok.glob,ok.blt,ok.above,ok.inj,ok.has,ok.cab,ok.hd,ok.frames,ok.stk,ok.exf,ok.bs,ok.bsz,ok.noex,ok.exfs,ok.funs,ok.frf⟩
theorem Cx.Ok.unwish {X:Cx} {E:Value->Shared->Prop} (ok:(X.wish E).Ok):X.Ok:=
 ⟨ok.mod,ok.kind,ok.glob,ok.blt,ok.above,ok.inj,ok.has,ok.cab,ok.hd,ok.frames,ok.stk,ok.exf,ok.bs,ok.bsz,ok.noex,ok.exfs,ok.funs,ok.frf⟩
section
variable {X:Cx} {pins:List (Addr × Obj)} {σ:St} {H:Hp} {s:Shared} {E:Value->Shared->Prop}
theorem Inv.wish (I:Inv X pins σ H s) (E:Value->Shared->Prop):Inv (X.wish E) pins σ H s:=⟨I.ok.wish E,I.os,I.bare,I.base,I.loc,I.cell,I.free,I.freeC,I.pin,I.hok,I.len⟩
theorem Inv.unwish (I:Inv (X.wish E) pins σ H s):Inv X pins σ H s:=⟨I.ok.unwish,I.os,I.bare,I.base,I.loc,I.cell,I.free,I.freeC,I.pin,I.hok,I.len⟩
theorem SP.unwish {D:Ends} {f:Flow} {s':Shared} (h:SP (X.wish E) pins D f s'):SP X pins D f s':=by
 cases f with
 | next=>obtain ⟨σ',H',I,q⟩:=h; exact ⟨σ',H',I.unwish,q⟩
 | brk=>obtain ⟨σ',H',I,q⟩:=h; exact ⟨σ',H',I.unwish,q⟩
 | cont=>obtain ⟨σ',H',I,q⟩:=h; exact ⟨σ',H',I.unwish,q⟩
 | ret u=>obtain ⟨v,σ',H',I,r,q⟩:=h; exact ⟨v,σ',H',I.unwish,r,q⟩
theorem PSs.nox {st:List Stmt} {t:TS} (h:PSs X.nox st t):PSs X st t:=fun pins s σ H D I hw=>
 wpAny_mono (h pins s σ H D (I.wish _) hw) (fun _ _ q=>q.unwish) fun _ _ z=>False.elim z
end
section
variable {X:Cx} {st:Stmt} {rest:List Stmt} {t u:TS} {e:Expr} {te:TE} {pos:Pos}
noncomputable def Agn:TS:=fun D σ H=>D.nx σ H
noncomputable def Aho (t u:TS):TS:=fun D σ H=>t { D with nx:=u D } σ H
theorem C1:PSs X [] Agn:=fun _ _ σ H _ I h=>wpAny_execs_nil ⟨σ,H,I,h⟩
theorem A2 (h1:PS X st t) (h2:PSs X rest u):PSs X (st :: rest) (Aho t u):=by
 intro pins s σ H D I h
 refine wpAny_execs_cons (thn (h1 pins s σ H { D with nx:=u D } I h) fun f s1 q=>?_)
 cases f with
 | next=>
  obtain ⟨σ',H',I',q⟩:=q
  exact h2 pins s1 σ' H' D I' q
 | ret v=>exact q
 | brk=>exact q
 | cont=>exact q
theorem A4 (h1:PS X st t):PSs X [st] t:=by
 intro pins s σ H D I h
 refine wpAny_execs_cons (thn (h1 pins s σ H D I h) fun f s1 q=>?_)
 cases f with
 | next=>exact wpAny_execs_nil q
 | ret v=>exact q
 | brk=>exact q
 | cont=>exact q
theorem Inv.quiet {pins:List (Addr × Obj)} {σ:St} {H:Hp} {s:Shared} (I:Inv X pins σ H s):interactive X.env=false:=by simp [interactive,I.ok.kind]
noncomputable def Agj (te:TE):TS:=fun D σ H=>te σ H fun _ H1=>D.nx σ H1
theorem O5 (he:PE X e te) (hs:swapsWith e none pos.line X.env=pure false:=by rfl):PS X (.Expr e pos) (Agj te):=by
 intro pins s σ H D I h
 exact wpAny_Expr_any (thn (he pins s σ H _ I h) fun v s1 ⟨x,H1,I1,r1,q1⟩=>⟨σ,H1,I1,q1⟩) I.quiet hs
noncomputable def Ahn (te:TE):TS:=fun D σ H=>te σ H D.rt
theorem A9 (he:PE X e te):PS X (.Return (some e) pos) (Ahn te):=by
 intro pins s σ H D I h
 exact wpAny_Return_some (thn (he pins s σ H _ I h) fun v s1 ⟨x,H1,I1,r1,q1⟩=>⟨x,σ,H1,I1,r1,q1⟩)
noncomputable def Ahi (c:TT) (t u:TS):TS:=fun D σ H=>c σ H fun b H1=>if b=true then t D σ H1 else u D σ H1
theorem D1 {c:Expr} {a b:List Stmt} {tc:TT} (hc:PT X c tc) (ha:PSs X a t) (hb:PSs X b u):PS X (.If c a b pos) (Ahi tc t u):=by
 intro pins s σ H D I h
 refine wpAny_If (thn (hc pins s σ H _ I h) fun d s1 ⟨H1,I1,q1⟩=>?_)
 cases d with
 | true=>exact ha pins s1 σ H1 D I1 q1
 | false=>exact hb pins s1 σ H1 D I1 q1
noncomputable def Ae7:TS:=fun _ _ _=>False
theorem M8:PS X st Ae7:=fun _ _ _ _ _ _ h=>h.elim
end
noncomputable abbrev TG:=V->St->Hp->(St->Hp->Prop)->Prop
noncomputable abbrev TGs:=List V->St->Hp->(St->Hp->Prop)->Prop
noncomputable def PG (X:Cx) (target:Expr) (t:TG):Prop:=
 ∀(pins:List (Addr × Obj)) (s:Shared) (σ:St) (H:Hp) (v:V) (u:Value) (Q:St->Hp->Prop),Inv X pins σ H s->RelV v u->t v σ H Q->
  wpAny (model X.prog X.w) X.A (assign target X.env u) (fun _ s'=>∃σ' H',Inv X pins σ' H' s'/\Q σ' H') X.xe s
noncomputable def PGs (X:Cx) (ts:List Expr) (t:TGs):Prop:=
 ∀(pins:List (Addr × Obj)) (s:Shared) (σ:St) (H:Hp) (vs:List V) (us:List Value) (Q:St->Hp->Prop),Inv X pins σ H s->Vals vs us->t vs σ H Q->
  wpAny (model X.prog X.w) X.A (assignInOrder ((assignEach ts X.env).map (·.2)) us) (fun _ s'=>∃σ' H',Inv X pins σ' H' s'/\Q σ' H') X.xe s
noncomputable abbrev Ac8:=V->V->V->Hp->(Hp->Prop)->Prop
noncomputable def Afj (X:Cx) (t:Ac8):Prop:=
 ∀(pins:List (Addr × Obj)) (s:Shared) (σ:St) (H:Hp) (o i v:V) (ov iv u:Value) (Q:Hp->Prop),Inv X pins σ H s->RelV o ov->RelV i iv->RelV v u->t o i v H Q->
  wpAny (model X.prog X.w) X.A (setItem ov iv u) (fun _ s'=>∃H',Inv X pins σ H' s'/\Q H') X.xe s
noncomputable abbrev TIp:=V->V->Hp->VK->Prop
noncomputable def PIp (X:Cx) (op:Operator) (t:TIp):Prop:=
 ∀(pins:List (Addr × Obj)) (s:Shared) (σ:St) (H:Hp) (x y:V) (v u:Value) (Q:VK),Inv X pins σ H s->RelV x v->RelV y u->t x y H Q->
  wpAny (model X.prog X.w) X.A (inplaceOp op v u) (EP X pins σ Q) X.xe s
section
variable {X:Cx} {pos:Pos}
noncomputable def Wk (i:Nat):TG:=fun v σ H Q=>Q (σ.set i (some v)) H
theorem C5 {i:Nat} {x:Str} (hN:X.N.Nodup) (hi:X.N[i]? = some x) (hx:Loc X.env.scope x) (hf:X.fn x=true\/X.env.scope.names.lookup x=some .local:=by first | exact .inl rfl | exact .inr rfl | assumption):PG X (.Name x pos) (Wk i):=by
 intro pins s σ H v u Q I r h
 exact wpAny_assign_Name (Cg I hN hi hx r (fun s' I'=>⟨_,H,I',h⟩) hf)
noncomputable def Agz:TGs:=fun vs σ H Q=>vs=[]/\Q σ H
noncomputable def Afv (t:TG) (u:TGs):TGs:=fun vs σ H Q=>∃v r,vs=v :: r/\t v σ H fun σ' H'=>u r σ' H' Q
theorem N4:PGs X [] Agz:=by
 intro pins s σ H vs us Q I r h
 obtain ⟨e,h⟩:=h
 subst e
 cases r
 exact assignInOrder_nil ⟨σ,H,I,h⟩
theorem E1 {e:Expr} {es:List Expr} {t:TG} {u:TGs} (h1:PG X e t) (h2:PGs X es u)
  (hs:(assignEach (e :: es) X.env).map (·.2)=assign e X.env :: (assignEach es X.env).map (·.2):=by rfl):PGs X (e :: es) (Afv t u):=by
 intro pins s σ H vs us Q I r h
 obtain ⟨v,vr,e1,h⟩:=h
 subst e1
 cases r with
 | cons r rr=>
  rw [hs]
  refine assignInOrder_cons (thn (h1 pins s σ H _ _ _ I r h) fun _ s1 ⟨σ1,H1,I1,q1⟩=>?_)
  exact h2 pins s1 σ1 H1 _ _ Q I1 rr q1
noncomputable def Afw (K:Θf) (n:Nat) (t:TGs):TG:=fun v σ H Q=>∃a xs,v = .ref a/\SqT K H a xs/\xs.length=n/\t xs σ H Q
theorem T6 {es:List Expr} {k:Nat} {t:TGs} {n:Nat} (hc:X.calm=true) (h:PGs X es t)
  (hn:(assignEach es X.env).length=n:=by rfl) (hst:(assignEach es X.env).findIdx? (·.1)=none:=by rfl):PG X (.Tuple es k pos) (Afw X.K n t):=by
 intro pins s σ H v u Q I r hw
 obtain ⟨a,xs,e1,hq,hl,hw⟩:=hw
 subst e1
 cases r
 obtain ⟨its,rv,ht,hz⟩:=I.tuple hq
 refine assign_Tuple_tuple (I.ok.hd hc) ht (by simp [hn,<-hl,rv.length]) hst fun h' hx=>?_
 have I1:Inv X pins σ H { s with heap:=h' }:=I.kept (t':=s.toks) fun b o e=>hx b o (Zs_ (Zn_ e)) e
 exact h pins _ σ H xs _ Q I1 (by simpa using rv) hw
noncomputable def Ag0 (to ti:TE) (t:Ac8):TG:=fun v σ H Q=>to σ H fun o H1=>ti σ H1 fun i H2=>t o i v H2 fun H3=>Q σ H3
theorem Yl {o i:Expr} {to ti:TE} {t:Ac8} (ho:PE X o to) (hi:PE X i ti) (hs:Afj X t)
  (ha:∀v,assign (.Subscript o i pos) X.env v=(do
   let ov <-holding [v] (eval o X.env)
   let iv <-holding [v,ov] (eval i X.env)
   standAt pos
   holding [v,ov,iv] (setItem ov iv v)
   release [v,ov,iv] []):=by intro _; rfl):PG X (.Subscript o i pos) (Ag0 to ti t):=by
 intro pins s σ H v u Q I r h
 rw [ha]
 refine Za_ (wpAny_holding (thn (ho pins s σ H _ I h) fun ov s1 ⟨x,H1,I1,r1,q1⟩=>?_))
 refine Za_ (wpAny_holding (thn (hi pins s1 σ H1 _ I1 q1) fun iv s2 ⟨y,H2,I2,r2,q2⟩=>?_))
 refine Za_ (wpAny_standAt (Za_ (wpAny_holding (thn (hs pins s2 σ H2 x y v ov iv u _ I2 r1 r2 r q2) fun _ s3 ⟨H3,I3,q3⟩=>?_))))
 exact wpAny_release ⟨σ,H3,I3,q3⟩
noncomputable def Ae4 (te:TE) (g:TG):TS:=fun D σ H=>te σ H fun x H1=>g x σ H1 D.nx
theorem Gc {tg e:Expr} {te:TE} {g:TG} (he:PE X e te) (hg:PG X tg g) (hs:swapsWithSole [tg] e pos.line X.env=pure false:=by rfl) (hw:swappedStores [tg] e X.env=pure none:=by rfl)
  (h1:(assignEach [tg] X.env).map (·.2)=[assign tg X.env]:=by rfl):PS X (.Assign [tg] e pos) (Ae4 te g):=by
 intro pins s σ H D I h
 refine wpAny_Assign_stores (thn (he pins s σ H _ I h) fun v s1 ⟨x,H1,I1,r1,q1⟩=>?_) hs hw
 rw [h1]
 exact thn (hg pins s1 σ H1 x v _ I1 r1 q1) fun _ s2 q=>q
theorem C0 {i:Nat} {x:Str} {e:Expr} {te:TE} {pos':Pos} (hN:X.N.Nodup) (hi:X.N[i]? = some x) (hx:Loc X.env.scope x) (he:PE X e te) (hs:swapsWith e (some (.Name x pos')) pos.line X.env=pure false:=by rfl) (hf:X.fn x=true\/X.env.scope.names.lookup x=some .local:=by first | exact .inl rfl | exact .inr rfl | assumption) :
  PS X (.Assign [.Name x pos'] e pos) (Ae4 te (Wk i)):=by
 intro pins s σ H D I h
 refine wpAny_Assign_Name (thn (he pins s σ H _ I h) fun v s1 ⟨y,H1,I1,r1,q1⟩=>?_) hs
 exact Cg I1 hN hi hx r1 (fun s2 I2=>⟨_,H1,I2,q1⟩) hf
noncomputable def Ahe (i:Nat) (te:TE) (ti:TIp):TS:=fun D σ H=>∃x,σ[i]? = some (some x)/\te σ H fun y H1=>ti x y H1 fun z H2=>D.nx (σ.set i (some z)) H2
theorem Ym {i:Nat} {x:Str} {e:Expr} {te:TE} {op:Operator} {ti:TIp} {pos':Pos} (hN:X.N.Nodup) (hi:X.N[i]? = some x) (hx:Loc X.env.scope x) (he:PE X e te) (ho:PIp X op ti) (hf:X.fn x=true\/X.env.scope.names.lookup x=some .local:=by first | exact .inl rfl | exact .inr rfl | assumption) :
  PS X (.AugAssign (.Name x pos') op e pos) (Ahe i te ti):=by
 intro pins s σ H D I h
 obtain ⟨v,e1,h⟩:=h
 obtain ⟨m,hn,hl⟩:=I.loc
 have vis:Vis X.env.scope x:=by rcases hx with k | k; exact .inl k; exact .inr (.inl k)
 obtain ⟨u,r,l⟩:=hl i x v hi e1 vis
 refine wpAny_AugAssign_Name ?_
 have go:wpAny (model X.prog X.w) X.A (eval e X.env) (fun w s₂=>wpAny (model X.prog X.w) X.A (inplaceOp op u w) (fun r s₃=>wpAny (model X.prog X.w) X.A (storeName X.env x r) (fun _=>SP X pins D .next) X.xe s₃) X.xe s₂) X.xe s:=by
  refine thn (he pins s σ H _ I h) fun w s1 ⟨y,H1,I1,r1,q1⟩=>?_
  refine thn (ho pins s1 σ H1 v y u w _ I1 r r1 q1) fun z s2 ⟨zv,H2,I2,r2,q2⟩=>?_
  exact Cg I2 hN hi hx r2 (fun s3 I3=>⟨_,H2,I3,q2⟩) hf
 rcases l with ⟨hk,hm⟩ | ⟨hk,c,hc,hcell⟩
 ·exact wpAny_loadName_local I.ok.kind hk hn hm go
 ·rcases hk with hk | hk
  ·exact wpAny_loadName_cell I.ok.kind hk hc hcell go
  ·rcases hx with k | k
   ·have:X.env.scope.names.lookup x=some .free:=hk
    rw [k] at this; cases this
   ·have:X.env.scope.names.lookup x=some .free:=hk
    rw [k] at this; cases this
noncomputable def ipI (f:Int->Int->Int):TIp:=fun x y H Q=>∃i j,x = .int i/\y = .int j/\Q (.int (f i j)) H
theorem Wt:PIp X .Add (ipI fun i j=>i + j):=by
 intro pins s σ H x y v u Q I r1 r2 h
 obtain ⟨i,j,e1,e2,q⟩:=h
 subst e1; subst e2
 obtain ⟨t,rfl⟩:=r1
 obtain ⟨t',rfl⟩:=r2
 exact iadd_int ⟨.int _,H,I.tok _,⟨_,rfl⟩,q⟩
end
section
variable {X:Cx} {pos:Pos}
noncomputable def Afa (c:TT) (tb:TS):TS:=fun D σ H=>∃W:Nat->St->Hp->Prop,(∃m,W m σ H)/\∀m σ H,W m σ H->
 c σ H fun b H1=>if b=true then ∃N:St->Hp->Prop,(∀σ' H',N σ' H'->∃m',m' < m/\W m' σ' H')/\tb { D with nx:=N,ct:=N,bk:=D.nx } σ H1 else D.nx σ H1
theorem U9 {c:Expr} {body:List Stmt} {tc:TT} {tb:TS} (hp:PassesOwn (model X.prog X.w) X.A X.env X.xe) (hc:PT X c tc) (hb:PSs X body tb):PS X (.While c body [] pos) (Afa tc tb):=by
 intro pins s σ H D I h
 obtain ⟨W,⟨m0,w0⟩,turn⟩:=h
 refine wpAny_While (codeAny_whileLoop (fun n s'=>∃σ' H',Inv X pins σ' H' s'/\W n σ' H') ?_ m0 ⟨σ,H,I,w0⟩)
 rintro n s1 ⟨σ1,H1,I1,w1⟩
 refine wpAny_passesOwn hp (thn (hc pins s1 σ1 H1 _ I1 (turn n σ1 H1 w1)) fun b s2 ⟨H2,I2,q2⟩=>?_)
 cases b with
 | true=>
  obtain ⟨N,hN,q2⟩:=q2
  rw [if_pos rfl]
  refine wpAny_passesOwn hp (thn (hb pins s2 σ1 H2 _ I2 q2) fun f s3 q3=>?_)
  cases f with
  | next=>
   obtain ⟨σ3,H3,I3,n3⟩:=q3
   obtain ⟨m',hm,w3⟩:=hN σ3 H3 n3
   exact ⟨m',hm,σ3,H3,I3,w3⟩
  | cont=>
   obtain ⟨σ3,H3,I3,n3⟩:=q3
   obtain ⟨m',hm,w3⟩:=hN σ3 H3 n3
   exact ⟨m',hm,σ3,H3,I3,w3⟩
  | brk=>exact q3
  | ret v=>exact q3
 | false=>
  rw [if_neg Zf_]
  exact wpAny_execs_nil ⟨σ1,H2,I2,q2⟩
end
structure It where
 go:Nat->Hp->Prop
 yld:Nat->Hp->V->Hp->Prop
 stop:Nat->Hp->Prop
noncomputable def FpOk (X:Cx) (pins:List (Addr × Obj)) (H:Hp) (b:Addr):Prop:=
 H b=none/\b≠X.env.locals/\b∉X.fs/\(b∈X.ex\/X.s₀.heap.objs.size<=b)/\(∀x c,X.env.cells.lookup x=some c->c≠b)/\∀p∈X.pn++pins,p.1≠b
theorem Inv.fpOk {X:Cx} {pins:List (Addr × Obj)} {σ:St} {H H':Hp} {s:Shared} {b:Addr} (I:Inv X pins σ H s) (hb:s.heap.objs.size<=b) (hn:H' b=none):FpOk X pins H' b:=by
 refine ⟨hn,Nat.ne_of_gt (Zq_ I.lt hb),I.nofs hb,.inr (Zo_ I.sz hb),fun x c e z=>?_,fun p hp z=>?_⟩
 ·obtain ⟨v,q⟩:=I.cell x c e
  exact absurd (Zq_ q.lt (by rw [z]; exact hb)) (Nat.lt_irrefl _)
 ·exact absurd (Zq_ (Zn_ (I.pin p hp).1) (by rw [z]; exact hb)) (Nat.lt_irrefl _)
structure Turn (P:Program) (w:World) (K:Θf) (tg:Expr) (J:It) (fp:List Addr) (it:Addr) (tn:Nat->Heap->Prop):Prop where
 mem:it∈fp
 obj:∀i h,tn i h->∀b∈fp,∃o,h.get? b=some o/\∀v,o.data≠.cell v
 keep:∀i h h',tn i h->(∀b∈fp,∀o,h.get? b=some o->h'.get? b=some o)->tn i h'
 item:∀(X:Cx),X.prog=P->X.w=w->X.K=K->X.calm=true->∀(i:Nat) (pins:List (Addr × Obj)) (s:Shared) (σ:St) (H:Hp) (E:Value->Shared->Prop),Inv X pins σ H s->(∀b∈fp,FpOk X pins H b)->tn i s.heap->J.go i H->
  wpAny (model P w) X.A (pyNext (.ref it)) (fun r s1=>∃u,r=some u/\
   wpAny (model P w) X.A (letOwnedTupleGo tg (.ref it) u) (fun _ s2=>∃x H',Inv X pins σ H' s2/\RelV x u/\J.yld i H x H'/\tn (i + 1) s2.heap/\∀b∈fp,H' b=none) E s1) E s
 done:∀(X:Cx),X.prog=P->X.w=w->X.K=K->X.calm=true->∀(i:Nat) (pins:List (Addr × Obj)) (s:Shared) (σ:St) (H:Hp) (E:Value->Shared->Prop),Inv X pins σ H s->(∀b∈fp,FpOk X pins H b)->tn i s.heap->J.stop i H->
  wpAny (model P w) X.A (pyNext (.ref it)) (fun r s1=>r=none/\Inv X pins σ H s1) E s
 self:∀(A:Around) (i:Nat) (s:Shared) (Q:Value->Shared->Prop) (E:Value->Shared->Prop),tn i s.heap->Q (.ref it) s->wpAny (model P w) A (pyIter (.ref it)) Q E s
noncomputable abbrev TI:=St->Hp->(It->Hp->Prop)->Prop
noncomputable def PIE (X:Cx) (pins:List (Addr × Obj)) (σ:St) (tg:Expr) (R:It->Hp->Prop) (itv:Value) (s2:Shared):Prop:=
 ∃(it:Addr) (fp:List Addr) (tn:Nat->Heap->Prop) (J:It) (H':Hp),itv = .ref it/\Inv X pins σ H' s2/\Turn X.prog X.w X.K tg J fp it tn/\tn 0 s2.heap/\(∀b∈fp,FpOk X pins H' b)/\R J H'
noncomputable def PI (X:Cx) (tg iter:Expr) (wi:TI):Prop:=
 ∀(pins:List (Addr × Obj)) (s:Shared) (σ:St) (H:Hp) (R:It->Hp->Prop),Inv X pins σ H s->wi σ H R->
  wpAny (model X.prog X.w) X.A (eval iter X.env) (fun v s1=>wpAny (model X.prog X.w) X.A (pyIter v) (PIE X pins σ tg R) X.xe s1) X.xe s
theorem Qr {M:Model} {A:Around} {E:Value->Shared->Prop} {s:Shared} {tg:Expr} {it:Addr} {u:Value} {o:Obj} {n:String} {vs:Array Value} {Q:Unit->Shared->Prop} (ho:s.heap.get? it=some o) (hc:o.cls = .type n) (hd:o.data = .fields vs)
  (hn:["enumerate","zip","dict_itemiterator","dict_reverseitemiterator","odict_iterator","itertools.zip_longest","itertools.pairwise"].contains n=false) (hQ:Q () s):wpAny M A (letOwnedTupleGo tg (.ref it) u) Q E s:=by
 unfold letOwnedTupleGo
 cases tg <;> first
  | exact Zb_ hQ
  | (cases u <;> first
    | exact Zb_ hQ
    | (refine Za_ (wpAny_load ho ?_)
       rw [hc,hd]
       show wpAny M A (if (["enumerate","zip","dict_itemiterator","dict_reverseitemiterator","odict_iterator","itertools.zip_longest","itertools.pairwise"].contains n && vs[0]? == some (rawInt _))=true then _ else _) Q E s
       rw [if_neg (by intro h; rw [hn,Bool.false_and] at h; cases h)]
       exact Zb_ hQ))
noncomputable def Itl (K:Θf) (a:Addr):It:=
 ⟨fun i H=>∃xs x,SqL K H a xs/\xs[i]? = some x,fun i H x H'=>H' = H/\∀xs,SqL K H a xs->xs[i]? = some x,fun i H=>∃xs,SqL K H a xs/\xs.length<=i⟩
noncomputable def Itt (K:Θf) (a:Addr):It:=
 ⟨fun i H=>∃xs x,SqT K H a xs/\xs[i]? = some x,fun i H x H'=>H' = H/\∀xs,SqT K H a xs->xs[i]? = some x,fun i H=>∃xs,SqT K H a xs/\xs.length<=i⟩
noncomputable def Itr (lo:Int) (n:Nat):It:=⟨fun i _=>i < n,fun i H x H'=>H' = H/\x = .int (lo + i),fun i _=>n<=i⟩
theorem Vc {P:Program} {w:World} {K:Θf} {tg:Expr} (a it:Addr):Turn P w K tg (Itl K a) [it] it (fun i h=>h.IsListIter it a i) where
 mem:=by simp
 obj:=fun i h st b hb=>by
  have e:b=it:=by simpa using hb
  subst e
  obtain ⟨o,e,c,d⟩:=st
  exact ⟨o,e,fun v z=>by rw [d] at z; cases z⟩
 keep:=fun i h h' st k=>st.at fun o e=>k it (by simp) o e
 item:=by
  intro X hP hw hK hc i pins s σ H E I hf st hg
  subst hP hw hK
  obtain ⟨xs,x,hq,hx⟩:=hg
  obtain ⟨its,rv,p,hz⟩:=I.list hq
  obtain ⟨u,hu,ru⟩:=rv.get hx
  obtain ⟨f0,f1,f2,f3,f4,f5⟩:=hf it (by simp)
  refine wpAny_pyNext_list_item st p.isList (x:=u) (by simpa using hu) fun h' st' sb=>?_
  have I1:Inv X pins σ H { s with heap:=h' }:=I.turned (t':=s.toks) (fun b o hb e=>(sb.2 b hb).trans e) f0 f1 f3 f4 f5
  obtain ⟨o,e,c,d⟩:=id st'
  exact ⟨u,rfl,Qr (s:={ s with heap:=h' }) e c d (by decide) ⟨x,H,I1,ru,⟨rfl,fun ys hy=>by rw [I.list_inj hy hq]; exact hx⟩,st',fun b hb=>(hf b hb).1⟩⟩
 done:=by
  intro X hP hw hK hc i pins s σ H E I hf st hg
  subst hP hw hK
  obtain ⟨xs,hq,hx⟩:=hg
  obtain ⟨its,rv,p,hz⟩:=I.list hq
  obtain ⟨f0,f1,f2,f3,f4,f5⟩:=hf it (by simp)
  have hl:=rv.length
  exact wpAny_pyNext_list_end (I.ok.hd hc) st p.isList (by simp; omega) fun h' eb=>⟨rfl,I.turned (t':=s.toks) (fun b o hb e=>eb b o hb e) f0 f1 f3 f4 f5⟩
 self:=fun _ _ _ _ _ st h=>wpAny_pyIter_listiter st h
theorem Qd {P:Program} {w:World} {K:Θf} {tg:Expr} (a it:Addr):Turn P w K tg (Itt K a) [it] it (fun i h=>h.IsTupleIter it a i) where
 mem:=by simp
 obj:=fun i h st b hb=>by
  have e:b=it:=by simpa using hb
  subst e
  obtain ⟨o,e,c,d⟩:=st
  exact ⟨o,e,fun v z=>by rw [d] at z; cases z⟩
 keep:=fun i h h' st k=>st.at fun o e=>k it (by simp) o e
 item:=by
  intro X hP hw hK hc i pins s σ H E I hf st hg
  subst hP hw hK
  obtain ⟨xs,x,hq,hx⟩:=hg
  obtain ⟨its,rv,p,hz⟩:=I.tuple hq
  obtain ⟨u,hu,ru⟩:=rv.get hx
  obtain ⟨f0,f1,f2,f3,f4,f5⟩:=hf it (by simp)
  refine wpAny_pyNext_tuple_item st (show s.heap.IsTuple a its.toArray from p) (x:=u) (by simpa using hu) fun h' st' sb=>?_
  have I1:Inv X pins σ H { s with heap:=h' }:=I.turned (t':=s.toks) (fun b o hb e=>(sb.2 b hb).trans e) f0 f1 f3 f4 f5
  obtain ⟨o,e,c,d⟩:=id st'
  exact ⟨u,rfl,Qr (s:={ s with heap:=h' }) e c d (by decide) ⟨x,H,I1,ru,⟨rfl,fun ys hy=>by rw [I.tuple_inj hy hq]; exact hx⟩,st',fun b hb=>(hf b hb).1⟩⟩
 done:=by
  intro X hP hw hK hc i pins s σ H E I hf st hg
  subst hP hw hK
  obtain ⟨xs,hq,hx⟩:=hg
  obtain ⟨its,rv,p,hz⟩:=I.tuple hq
  obtain ⟨f0,f1,f2,f3,f4,f5⟩:=hf it (by simp)
  have hl:=rv.length
  exact wpAny_pyNext_tuple_end (I.ok.hd hc) st (show s.heap.IsTuple a its.toArray from p) (by simp; omega) fun h' eb=>⟨rfl,I.turned (t':=s.toks) (fun b o hb e=>eb b o hb e) f0 f1 f3 f4 f5⟩
 self:=fun _ _ _ _ _ st h=>wpAny_pyIter_tupleiter st h
theorem Qc {P:Program} {w:World} {K:Θf} {tg:Expr} (it:Addr) (lo:Int) (n:Nat):Turn P w K tg (Itr lo n) [it] it (fun i h=>IsRangeIter h it (lo + (i:Nat) * 1) ((n:Int) - (i:Nat)) 1) where
 mem:=by simp
 obj:=fun i h st b hb=>by
  have e:b=it:=by simpa using hb
  subst e
  exact ⟨_,st,fun v z=>by
   have z':Data.fields _=Data.cell v:=z
   cases z'⟩
 keep:=fun i h h' st k=>k it (by simp) _ st
 item:=by
  intro X hP hw hK hc i pins s σ H E I hf st hg
  subst hP hw hK
  obtain ⟨f0,f1,f2,f3,f4,f5⟩:=hf it (by simp)
  have W:=Walks.range (prog:=X.prog) (w:=X.w) (I.ok.hd hc) it lo 1 n
  refine W.item i s _ _ hg st fun v h' tk hv st' kk=>?_
  obtain ⟨t,rfl⟩:=hv
  have I1:Inv X pins σ H { s with heap:=h',toks:=tk }:=I.turned (fun b o hb e=>kk b o (by simpa using hb) e) f0 f1 f3 f4 f5
  refine ⟨_,rfl,Qr (s:={ s with heap:=h',toks:=tk }) (n:="range_iterator") st' rfl rfl (by decide) ⟨.int (lo + i),H,I1,⟨t,?_⟩,⟨rfl,rfl⟩,st',fun b hb=>(hf b hb).1⟩⟩
  rw [Int.mul_one]
 done:=by
  intro X hP hw hK hc i pins s σ H E I hf st hg
  subst hP hw hK
  obtain ⟨f0,f1,f2,f3,f4,f5⟩:=hf it (by simp)
  exact wpAny_pyNext_range_end (I.ok.hd hc) st (by have:n<=i:=hg; omega) fun h' eb=>⟨rfl,I.turned (t':=s.toks) (fun b o hb e=>eb b o hb e) f0 f1 f3 f4 f5⟩
 self:=fun _ _ _ _ _ st h=>wpAny_pyIter_rangeiter st h
section
variable {X:Cx} {tg:Expr}
noncomputable def Acw (K:Θf) (tl:TE):TI:=fun σ H R=>tl σ H fun x H1=>∃a,x = .ref a/\(∃xs,SqL K H1 a xs)/\R (Itl K a) H1
noncomputable def Af0 (K:Θf) (tl:TE):TI:=fun σ H R=>tl σ H fun x H1=>∃a,x = .ref a/\(∃xs,SqT K H1 a xs)/\R (Itt K a) H1
theorem Ab3 {l:Expr} {tl:TE} (hl:PE X l tl):PI X tg l (Acw X.K tl):=by
 intro pins s σ H R I h
 refine thn (hl pins s σ H _ I h) fun v s1 ⟨x,H1,I1,r1,q1⟩=>?_
 obtain ⟨a,e,⟨xs,hq⟩,q⟩:=q1
 subst e
 cases r1
 obtain ⟨its,rv,p,hz⟩:=I1.list hq
 refine wpAny_pyIter_list p.isList ?_
 refine ⟨s1.heap.objs.size,[s1.heap.objs.size],_,_,H1,rfl,I1.kept (t':=s1.toks) fun b o e=>Zc_ _ e,Vc a _,⟨_,Zm_ _ rfl,rfl,rfl⟩,fun b hb=>?_,q⟩
 have e:b=s1.heap.objs.size:=by simpa using hb
 subst e
 exact I1.fpOk (Zd_ _) (I1.hok.fresh (Zd_ _))
theorem Aem {l:Expr} {tl:TE} (hl:PE X l tl):PI X tg l (Af0 X.K tl):=by
 intro pins s σ H R I h
 refine thn (hl pins s σ H _ I h) fun v s1 ⟨x,H1,I1,r1,q1⟩=>?_
 obtain ⟨a,e,⟨xs,hq⟩,q⟩:=q1
 subst e
 cases r1
 obtain ⟨its,rv,p,hz⟩:=I1.tuple hq
 refine wpAny_pyIter_tuple (show s1.heap.IsTuple a its.toArray from p) ?_
 refine ⟨s1.heap.objs.size,[s1.heap.objs.size],_,_,H1,rfl,I1.kept (t':=s1.toks) fun b o e=>Zc_ _ e,Qd a _,⟨_,Zm_ _ rfl,rfl,rfl⟩,fun b hb=>?_,q⟩
 have e:b=s1.heap.objs.size:=by simpa using hb
 subst e
 exact I1.fpOk (Zd_ _) (I1.hok.fresh (Zd_ _))
theorem Ms {pins:List (Addr × Obj)} {σ:St} {H:Hp} {s:Shared} {R:It->Hp->Prop} {E:Value->Shared->Prop} {lo hi:Int} {t u v:Tok} {tk:Nat} (I:Inv X pins σ H s) (h1:-(2 ^ 62)<=lo) (h2:lo < 2 ^ 62) (h3:-(2 ^ 62)<=hi) (h4:hi < 2 ^ 62)
  (q:R (Itr lo (hi - lo).toNat) H):wpAny (model X.prog X.w) X.A (pyIter (.ref s.heap.objs.size)) (PIE X pins σ tg R) E { s with heap:=s.heap.push { cls:=.type "range",data:=.fields #[.int lo t,.int hi u,.int 1 v] },toks:=tk }:=by
 refine wpAny_pyIter_range (IsRange.new ..) (small_one h1 h2 h3 h4) ?_
 have I1:Inv X pins σ H { s with heap:=s.heap.push { cls:=.type "range",data:=.fields #[.int lo t,.int hi u,.int 1 v] },toks:=tk }:=I.kept fun b o e=>Zc_ _ e
 refine ⟨(s.heap.push { cls:=.type "range",data:=.fields #[.int lo t,.int hi u,.int 1 v] }).objs.size,[(s.heap.push { cls:=.type "range",data:=.fields #[.int lo t,.int hi u,.int 1 v] }).objs.size],_,_,H,rfl,
  I1.kept (t':=tk) fun b o e=>Zc_ _ e,Qc _ lo (hi - lo).toNat,?_,fun b hb=>?_,q⟩
 ·have e1:lo + ((0:Nat):Int) * 1=lo:=by simp
  have e2:(((hi - lo).toNat:Nat):Int) - ((0:Nat):Int)=Builtin.Range.rangeSize lo hi 1:=by rw [rangeSize_one]; split <;> omega
  show IsRangeIter _ _ (lo + ((0:Nat):Int) * 1) ((((hi - lo).toNat:Nat):Int) - ((0:Nat):Int)) 1
  rw [e1,e2]
  exact Zm_ _ rfl
 ·have e:b=(s.heap.push { cls:=.type "range",data:=.fields #[.int lo t,.int hi u,.int 1 v] }).objs.size:=by simpa using hb
  subst e
  exact I1.fpOk (Zd_ _) (I1.hok.fresh (Zd_ _))
noncomputable def Afy (ta:TA):TI:=fun σ H R=>ta σ H fun vs H1=>∃j:Int,vs=[.int j]/\-(2 ^ 62)<=j/\j < 2 ^ 62/\R (Itr 0 j.toNat) H1
noncomputable def Afz (ta:TA):TI:=fun σ H R=>ta σ H fun vs H1=>∃i j:Int,vs=[.int i,.int j]/\(-(2 ^ 62)<=i/\i < 2 ^ 62/\-(2 ^ 62)<=j/\j < 2 ^ 62)/\R (Itr i (j - i).toNat) H1
theorem N5 {a:Expr} {ta:TA} {p pos:Pos} (hg:Gl X "range") (hm:X.mg "range" = none) (ha:PA X [a] ta) (hs:starEach [a] X.env=[(false,eval a X.env)]:=by rfl):PI X tg (.Call (.Name "range" p) [a] [] pos) (Afy ta):=by
 intro pins s σ H R I h
 refine Call_ (Al I hg hm boot_range (PyProof.Rows.callWith_type1 (thn (ha pos pins s σ H _ I h) fun us s1 ⟨vs,H1,I1,r1,q1⟩=>?_) hs rfl))
 obtain ⟨j,e,q1,q2,q⟩:=q1
 subst e
 cases r1 with
 | cons r rr=>
  cases rr
  obtain ⟨t,rfl⟩:=r
  exact call_range_1 (Ms I1 (by omega) (by omega) q1 q2 (by simpa using q))
theorem Ul {a b:Expr} {ta:TA} {p pos:Pos} (hg:Gl X "range") (hm:X.mg "range" = none) (ha:PA X [a,b] ta) (hs:starEach [a,b] X.env=[(false,eval a X.env),(false,eval b X.env)]:=by rfl) (hs2:starEach [b] X.env=[(false,eval b X.env)]:=by rfl) :
  PI X tg (.Call (.Name "range" p) [a,b] [] pos) (Afz ta):=by
 intro pins s σ H R I h
 refine Call_ (Al I hg hm boot_range (PyProof.Rows.callWith_type1 (thn (ha pos pins s σ H _ I h) fun us s1 ⟨vs,H1,I1,r1,q1⟩=>?_) (by rw [hs,hs2]) (by rw [hs2]; rfl)))
 obtain ⟨i,j,e,⟨q1,q2,q3,q4⟩,q⟩:=q1
 subst e
 cases r1 with
 | cons r rr=>
  cases rr with
  | cons r' rr=>
   cases rr
   obtain ⟨t,rfl⟩:=r
   obtain ⟨t',rfl⟩:=r'
   exact call_range_2 (Ms I1 q1 q2 q3 q4 q)
noncomputable def Ahg (wi:TI) (g:TG) (tb:TS):TS:=fun D σ H=>wi σ H fun J H1=>∃W:Nat->Nat->St->Hp->Prop,(∃m,W 0 m σ H1)/\∀i m σ H,W i m σ H->
 (J.stop i H/\D.nx σ H)\/(J.go i H/\∃N:St->Hp->Prop,(∀σ' H',N σ' H'->∃m',m' < m/\W (i + 1) m' σ' H')/\∀x H',J.yld i H x H'->g x σ H' fun σ2 H2=>tb { D with nx:=N,ct:=N,bk:=D.nx } σ2 H2)
noncomputable def Gb (fp:List Addr) (h:Heap):List (Addr × Obj):=fp.filterMap fun b=>(h.get? b).map fun o=>(b,o)
theorem V7 {fp:List Addr} {h:Heap} {b:Addr} {o:Obj} (hb:b∈fp) (e:h.get? b=some o):(b,o)∈Gb fp h:=List.mem_filterMap.mpr ⟨b,hb,by rw [e]; rfl⟩
theorem Tu {fp:List Addr} {h:Heap} {p:Addr × Obj} (hp:p∈Gb fp h):p.1∈fp/\h.get? p.1=some p.2:=by
 obtain ⟨b,hb,e⟩:=List.mem_filterMap.mp hp
 cases q:h.get? b with
 | none=>rw [q] at e; cases e
 | some o=>
  rw [q] at e
  have e':(b,o)=p:=Θo e
  subst e'
  exact ⟨hb,q⟩
theorem Inv.pinned {pins:List (Addr × Obj)} {σ:St} {H:Hp} {s:Shared} {fp:List Addr} (I:Inv X pins σ H s) (hf:∀b∈fp,FpOk X pins H b) (ho:∀b∈fp,∃o,s.heap.get? b=some o/\∀v,o.data≠.cell v):Inv X (pins++Gb fp s.heap) σ H s:=
 I.pins_of fun p hp=>(Θa hp).elim (fun z=>I.pin p (Zh_ _ z)) fun z=>by
  obtain ⟨hb,e⟩:=Tu z
  obtain ⟨f0,f1,f2,_⟩:=hf p.1 hb
  obtain ⟨o,e',d⟩:=ho p.1 hb
  rw [e] at e'; cases e'
  exact ⟨e,f0,f1,f2,d⟩
theorem Inv.unpinned {pins pl:List (Addr × Obj)} {σ:St} {H:Hp} {s:Shared} (I:Inv X (pins++pl) σ H s):Inv X pins σ H s:=I.pins_of fun p hp=>I.pin p (Zh_ _ (Zt_ _ hp))
theorem K7 {iter:Expr} {body:List Stmt} {wi:TI} {g:TG} {tb:TS} {pos:Pos} (hp:PassesOwn (model X.prog X.w) X.A X.env X.xe) (hc:X.calm=true) (hi:PI X tg iter wi) (hg:PG X tg g) (hb:PSs X body tb)
  (hs:∀x,foldedSetIterable iter X.env x=pure x:=by intro _; rfl):PS X (.For tg iter body [] pos) (Ahg wi g tb):=by
 intro pins s σ H D I h
 refine wpAny_For (thn (hi pins s σ H _ I h) fun v s1 h1=>thn h1 fun itv s2 h2=>?_) hs
 obtain ⟨it,fp,tn,J,H2,e,I2,T,st2,f2,W,⟨m0,w0⟩,turn⟩:=h2
 subst e
 have stat:∀{H':Hp},(∀b∈fp,H' b=none)->∀b∈fp,FpOk X pins H' b:=fun hn b hb=>⟨hn b hb,(f2 b hb).2⟩
 refine codeAny_forLoop_any (fun n s'=>∃i σ' H',Inv X pins σ' H' s'/\tn i s'.heap/\(∀b∈fp,H' b=none)/\W i n σ' H') ?_ m0 ⟨0,σ,H2,I2,st2,fun b hb=>(f2 b hb).1,w0⟩
 rintro n s3 ⟨i,σ3,H3,I3,st3,fr3,w3⟩
 rcases turn i n σ3 H3 w3 with ⟨stop,qn⟩ | ⟨go,N,hN,step⟩
 ·refine wpAny_passesOwn hp (thn (T.done X rfl rfl rfl hc i pins s3 σ3 H3 X.xe I3 (stat fr3) st3 stop) fun r s4 ⟨hr,I4⟩=>?_)
  subst hr
  exact wpAny_execs_nil ⟨σ3,H3,I4,qn⟩
 ·refine wpAny_passesOwn hp (thn (T.item X rfl rfl rfl hc i pins s3 σ3 H3 X.xe I3 (stat fr3) st3 go) fun r s4 ⟨u,hr,h4⟩=>?_)
  subst hr
  refine wpAny_passesOwn hp (thn h4 fun _ s5 ⟨x,H5,I5,r5,y5,st5,fr5⟩=>?_)
  have I5':=I5.pinned (stat fr5) (T.obj _ _ st5)
  refine wpAny_passesOwn hp (thn (hg _ s5 σ3 H5 x u _ I5' r5 (step x H5 y5)) fun _ s6 ⟨σ6,H6,I6,q6⟩=>?_)
  refine wpAny_passesOwn hp (thn (hb _ s6 σ6 H6 _ I6 q6) fun f s7 q7=>?_)
  have again:∀{σ7:St} {H7:Hp},Inv X (pins++Gb fp s5.heap) σ7 H7 s7->N σ7 H7->∃m,m < n/\∃i σ' H',Inv X pins σ' H' s7/\tn i s7.heap/\(∀b∈fp,H' b=none)/\W i m σ' H':=fun {σ7 H7} I7 n7=>by
   obtain ⟨m',hm,w7⟩:=hN σ7 H7 n7
   refine ⟨m',hm,i + 1,σ7,H7,I7.unpinned,T.keep _ _ _ st5 fun b hb o e=>(I7.pin (b,o) (Zh_ _ (Zh_ _ (V7 hb e)))).1,fun b hb=>?_,w7⟩
   obtain ⟨o,e,d⟩:=T.obj _ _ st5 b hb
   exact (I7.pin (b,o) (Zh_ _ (Zh_ _ (V7 hb e)))).2.1
  cases f with
  | next=>obtain ⟨σ7,H7,I7,n7⟩:=q7; exact again I7 n7
  | cont=>obtain ⟨σ7,H7,I7,n7⟩:=q7; exact again I7 n7
  | brk=>obtain ⟨σ7,H7,I7,q7⟩:=q7; exact ⟨σ7,H7,I7.unpinned,q7⟩
  | ret v=>obtain ⟨x7,σ7,H7,I7,r7,q7⟩:=q7; exact ⟨x7,σ7,H7,I7.unpinned,r7,q7⟩
end
theorem M6 {K:Θf} {a:Addr} {xs:List V} {g:TG} {tb:TS} {D:Ends} {σ:St} {H:Hp} (Pv:Nat->St->Hp->Prop) (h0:Pv 0 σ H) (hl:∀i σ H,i<=xs.length->Pv i σ H->SqL K H a xs)
  (hs:∀i x σ H,xs[i]? = some x->Pv i σ H->g x σ H fun σ2 H2=>tb { D with nx:=Pv (i + 1),ct:=Pv (i + 1),bk:=D.nx } σ2 H2) (hd:∀σ H,Pv xs.length σ H->D.nx σ H) :
  ∃W:Nat->Nat->St->Hp->Prop,(∃m,W 0 m σ H)/\∀i m σ H,W i m σ H->
   ((Itl K a).stop i H/\D.nx σ H)\/((Itl K a).go i H/\∃N:St->Hp->Prop,(∀σ' H',N σ' H'->∃m',m' < m/\W (i + 1) m' σ' H')/\∀x H',(Itl K a).yld i H x H'->g x σ H' fun σ2 H2=>tb { D with nx:=N,ct:=N,bk:=D.nx } σ2 H2):=by
 refine ⟨fun i m σ H=>m=xs.length - i/\i<=xs.length/\Pv i σ H,⟨xs.length,by simp,Nat.zero_le _,h0⟩,?_⟩
 rintro i m σ H ⟨rfl,hi,p⟩
 have q:=hl i σ H hi p
 by_cases hlt:i < xs.length
 ·refine .inr ⟨⟨xs,xs[i],q,by simp [hlt]⟩,Pv (i + 1),fun σ' H' p'=>⟨xs.length - (i + 1),by omega,rfl,hlt,p'⟩,fun x H' y=>?_⟩
  obtain ⟨e,y⟩:=y
  subst e
  exact hs i x σ _ (y xs q) p
 ·have e:i=xs.length:=by omega
  subst e
  exact .inl ⟨⟨xs,q,Zd_ _⟩,hd σ H p⟩
theorem Aa4 {K:Θf} {a:Addr} {xs:List V} {g:TG} {tb:TS} {D:Ends} {σ:St} {H:Hp} (Pv:Nat->St->Hp->Prop) (h0:Pv 0 σ H) (hl:∀i σ H,i<=xs.length->Pv i σ H->SqT K H a xs)
  (hs:∀i x σ H,xs[i]? = some x->Pv i σ H->g x σ H fun σ2 H2=>tb { D with nx:=Pv (i + 1),ct:=Pv (i + 1),bk:=D.nx } σ2 H2) (hd:∀σ H,Pv xs.length σ H->D.nx σ H) :
  ∃W:Nat->Nat->St->Hp->Prop,(∃m,W 0 m σ H)/\∀i m σ H,W i m σ H->
   ((Itt K a).stop i H/\D.nx σ H)\/((Itt K a).go i H/\∃N:St->Hp->Prop,(∀σ' H',N σ' H'->∃m',m' < m/\W (i + 1) m' σ' H')/\∀x H',(Itt K a).yld i H x H'->g x σ H' fun σ2 H2=>tb { D with nx:=N,ct:=N,bk:=D.nx } σ2 H2):=by
 refine ⟨fun i m σ H=>m=xs.length - i/\i<=xs.length/\Pv i σ H,⟨xs.length,by simp,Nat.zero_le _,h0⟩,?_⟩
 rintro i m σ H ⟨rfl,hi,p⟩
 have q:=hl i σ H hi p
 by_cases hlt:i < xs.length
 ·refine .inr ⟨⟨xs,xs[i],q,by simp [hlt]⟩,Pv (i + 1),fun σ' H' p'=>⟨xs.length - (i + 1),by omega,rfl,hlt,p'⟩,fun x H' y=>?_⟩
  obtain ⟨e,y⟩:=y
  subst e
  exact hs i x σ _ (y xs q) p
 ·have e:i=xs.length:=by omega
  subst e
  exact .inl ⟨⟨xs,q,Zd_ _⟩,hd σ H p⟩
theorem Hv {lo:Int} {n:Nat} {g:TG} {tb:TS} {D:Ends} {σ:St} {H:Hp} (Pv:Nat->St->Hp->Prop) (h0:Pv 0 σ H)
  (hs:∀i σ H,i < n->Pv i σ H->g (.int (lo + i)) σ H fun σ2 H2=>tb { D with nx:=Pv (i + 1),ct:=Pv (i + 1),bk:=D.nx } σ2 H2) (hd:∀σ H,Pv n σ H->D.nx σ H) :
  ∃W:Nat->Nat->St->Hp->Prop,(∃m,W 0 m σ H)/\∀i m σ H,W i m σ H->
   ((Itr lo n).stop i H/\D.nx σ H)\/((Itr lo n).go i H/\∃N:St->Hp->Prop,(∀σ' H',N σ' H'->∃m',m' < m/\W (i + 1) m' σ' H')/\∀x H',(Itr lo n).yld i H x H'->g x σ H' fun σ2 H2=>tb { D with nx:=N,ct:=N,bk:=D.nx } σ2 H2):=by
 refine ⟨fun i m σ H=>m=n - i/\i<=n/\Pv i σ H,⟨n,by simp,Nat.zero_le _,h0⟩,?_⟩
 rintro i m σ H ⟨rfl,hi,p⟩
 by_cases hlt:i < n
 ·refine .inr ⟨hlt,Pv (i + 1),fun σ' H' p'=>⟨n - (i + 1),by omega,rfl,hlt,p'⟩,fun x H' y=>?_⟩
  obtain ⟨e,y⟩:=y
  subst e y
  exact hs i σ _ hlt p
 ·have e:i=n:=by omega
  subst e
  exact .inl ⟨Zd_ _,hd σ H p⟩
noncomputable abbrev R2:=V->V->Hp->VK->Prop
noncomputable def OpR (X:Cx) (f:Value->Value->Sem Value) (r:R2):Prop:=
 ∀(pins:List (Addr × Obj)) (s:Shared) (σ:St) (H:Hp) (x y:V) (v u:Value) (Q:VK),Inv X pins σ H s->RelV x v->RelV y u->r x y H Q->
  wpAny (model X.prog X.w) X.A (f v u) (EP X pins σ Q) X.xe s
noncomputable def UnR (X:Cx) (f:Value->Sem Value) (r:V->Hp->VK->Prop):Prop:=
 ∀(pins:List (Addr × Obj)) (s:Shared) (σ:St) (H:Hp) (x:V) (v:Value) (Q:VK),Inv X pins σ H s->RelV x v->r x H Q->
  wpAny (model X.prog X.w) X.A (f v) (EP X pins σ Q) X.xe s
noncomputable def Q6 (X:Cx) (f:Value) (r:List V->Hp->VK->Prop):Prop:=
 ∀(pins:List (Addr × Obj)) (s:Shared) (σ:St) (H:Hp) (xs:List V) (us:List Value) (Q:VK),Inv X pins σ H s->Vals xs us->r xs H Q->
  wpAny (model X.prog X.w) X.A (call f us) (EP X pins σ Q) X.xe s
noncomputable def tOp (r:R2) (ta tb:TE):TE:=fun σ H Q=>ta σ H fun x H1=>tb σ H1 fun y H2=>r x y H2 Q
noncomputable def tUn (r:V->Hp->VK->Prop) (ta:TE):TE:=fun σ H Q=>ta σ H fun x H1=>r x H1 Q
noncomputable def rI (C:Int->Int->Prop) (g:Int->Int->V):R2:=fun x y H Q=>∃i j,x = .int i/\y = .int j/\C i j/\Q (g i j) H
noncomputable def rI0 (g:Int->Int->V):R2:=fun x y H Q=>∃i j,x = .int i/\y = .int j/\Q (g i j) H
noncomputable def rU (g:Int->V):V->Hp->VK->Prop:=fun x H Q=>∃i,x = .int i/\Q (g i) H
section
variable {X:Cx} {a b c:Expr} {ta tb tc:TE} {pos:Pos}
theorem Ada (ha:PE X a ta) (hb:PE X b tb) {pins:List (Addr × Obj)} {s:Shared} {σ:St} {H:Hp} {R:V->V->Hp->Prop} (I:Inv X pins σ H s)
  (h:ta σ H fun x H1=>tb σ H1 fun y H2=>R x y H2) {Q:Value->Shared->Prop} {f:Value->Value->Sem Value}
  (hf:∀v u s2 x y H2,Inv X pins σ H2 s2->RelV x v->RelV y u->R x y H2->wpAny (model X.prog X.w) X.A (f v u) Q X.xe s2) :
  wpAny (model X.prog X.w) X.A (eval a X.env) (fun v s₁=>wpAny (model X.prog X.w) X.A (eval b X.env) (fun u s₂=>wpAny (model X.prog X.w) X.A (f v u) Q X.xe s₂) X.xe s₁) X.xe s:=by
 refine thn (ha pins s σ H _ I h) fun v s1 ⟨x,H1,I1,r1,q1⟩=>?_
 refine thn (hb pins s1 σ H1 _ I1 q1) fun u s2 ⟨y,H2,I2,r2,q2⟩=>?_
 exact hf v u s2 x y H2 I2 r1 r2 q2
theorem B0 {op:Operator} {r:R2} (ho:OpR X (binaryOp op) r) (ha:PE X a ta) (hb:PE X b tb):PE X (.BinOp a op b pos) (tOp r ta tb):=by
 intro pins s σ H Q I h
 exact wpAny_BinOp (Ada ha hb I h fun v u s2 x y H2 I2 rx ry q=>ho pins s2 σ H2 x y v u Q I2 rx ry q)
theorem Ga {op:UnaryOp} {r:V->Hp->VK->Prop} (ho:UnR X (unaryOp op) r) (ha:PE X a ta):PE X (.UnaryOp op a pos) (tUn r ta):=by
 intro pins s σ H Q I h
 exact UnaryOp_ (thn (ha pins s σ H _ I h) fun v s1 ⟨x,H1,I1,r1,q1⟩=>ho pins s1 σ H1 x v Q I1 r1 q1)
theorem opI {f:Value->Value->Sem Value} {C:Int->Int->Prop} {g:Int->Int->Int}
  (rule:∀(i j:Int) (t u:Tok) (s:Shared) (Q:Value->Shared->Prop) (E:Value->Shared->Prop),C i j->Q (.int (g i j) s.toks) { s with toks:=s.toks + 1 }->wpAny (model X.prog X.w) X.A (f (.int i t) (.int j u)) Q E s) :
  OpR X f (rI C fun i j=>.int (g i j)):=by
 intro pins s σ H x y v u Q I rx ry h
 obtain ⟨i,j,rfl,rfl,hc,q⟩:=h
 obtain ⟨t,rfl⟩:=rx
 obtain ⟨t',rfl⟩:=ry
 exact rule i j t t' s _ _ hc ⟨.int (g i j),H,I.tok _,⟨_,rfl⟩,q⟩
theorem Abz {f:Value->Value->Sem Value} {g:Int->Int->Int}
  (rule:∀(i j:Int) (t u:Tok) (s:Shared) (Q:Value->Shared->Prop) (E:Value->Shared->Prop),Q (.int (g i j) s.toks) { s with toks:=s.toks + 1 }->wpAny (model X.prog X.w) X.A (f (.int i t) (.int j u)) Q E s) :
  OpR X f (rI0 fun i j=>.int (g i j)):=by
 intro pins s σ H x y v u Q I rx ry h
 obtain ⟨i,j,rfl,rfl,q⟩:=h
 obtain ⟨t,rfl⟩:=rx
 obtain ⟨t',rfl⟩:=ry
 exact rule i j t t' s _ _ ⟨.int (g i j),H,I.tok _,⟨_,rfl⟩,q⟩
theorem Aby {f:Value->Value->Sem Value} {g:Int->Int->Bool}
  (rule:∀(i j:Int) (t u:Tok) (s:Shared) (Q:Value->Shared->Prop) (E:Value->Shared->Prop),Q (.bool (g i j)) s->wpAny (model X.prog X.w) X.A (f (.int i t) (.int j u)) Q E s) :
  OpR X f (rI0 fun i j=>.bl (g i j)):=by
 intro pins s σ H x y v u Q I rx ry h
 obtain ⟨i,j,rfl,rfl,q⟩:=h
 obtain ⟨t,rfl⟩:=rx
 obtain ⟨t',rfl⟩:=ry
 exact rule i j t t' s _ _ ⟨.bl (g i j),H,I,rfl,q⟩
noncomputable def Ags (i j:Int):Prop:=0 < j/\j < 1073741824
noncomputable def Afg (i j:Int):Prop:=0<=j/\j<=1000000/\i.natAbs < 2 ^ 64
noncomputable def CMul (i j:Int):Prop:=(-(2 ^ 64) < i/\i < 2 ^ 64)\/(-(2 ^ 64) < j/\j < 2 ^ 64)
theorem CMul.ok {i j:Int} (h:CMul i j):IntMulOk i j:=by
 rcases h with ⟨h1,h2⟩ | ⟨h1,h2⟩
 ·exact .of_left (intBits_le_64 h1 h2)
 ·exact .of_right (intBits_le_64 h1 h2)
theorem Qe (k:Nat):(0:Int)<=2 ^ k:=by
 rw [two_pow_cast]
 exact Int.natCast_nonneg _
theorem op_add:OpR X (binaryOp .Add) (rI0 fun i j=>.int (i + j)):=Abz fun _ _ _ _ _ _ _ q=>add_int q
theorem op_sub:OpR X (binaryOp .Sub) (rI0 fun i j=>.int (i - j)):=Abz fun _ _ _ _ _ _ _ q=>sub_int q
theorem op_mul:OpR X (binaryOp .Mult) (rI CMul fun i j=>.int (i * j)):=opI fun _ _ _ _ _ _ _ hc q=>mul_int q hc.ok
theorem op_fdiv:OpR X (binaryOp .FloorDiv) (rI Ags fun i j=>.int (i / j)):=opI fun i j _ _ _ _ _ hc q=>by
 have h1:(0:Int) < j:=hc.1
 have h2:j < 1073741824:=hc.2
 exact floordiv_int (by omega) (by rw [Int.fdiv_eq_ediv_of_nonneg i (by omega)]; exact q) (.inl (PyProof.noPylong_small (by omega)))
theorem op_mod:OpR X (binaryOp .Mod) (rI (fun _ j=>0 < j) fun i j=>.int (i % j)):=opI fun i j _ _ _ _ _ hc q=>by
 have h1:(0:Int) < j:=hc
 exact mod_int' (by omega) (by rw [Int.fmod_eq_emod_of_nonneg i (by omega)]; exact q)
theorem op_shl:OpR X (binaryOp .LShift) (rI Afg fun i j=>.int (i * 2 ^ j.toNat)):=opI fun _ _ _ _ _ _ _ hc q=>lshift_int_small hc.1 hc.2.1 hc.2.2 q
theorem op_shr:OpR X (binaryOp .RShift) (rI (fun _ j=>0<=j) fun i j=>.int (i / 2 ^ j.toNat)):=opI fun i j _ _ _ _ _ hc q=>
 rshift_int hc (by rw [Int.fdiv_eq_ediv_of_nonneg i (Qe _)]; exact q)
theorem op_and:OpR X (binaryOp .BitAnd) (rI0 fun i j=>.int (Builtin.bitAnd i j)):=Abz fun _ _ _ _ _ _ _ q=>and_int q
theorem op_or:OpR X (binaryOp .BitOr) (rI0 fun i j=>.int (Builtin.bitOr i j)):=Abz fun _ _ _ _ _ _ _ q=>or_int q
theorem unI {f:Value->Sem Value} {g:Int->Int}
  (rule:∀(i:Int) (t:Tok) (s:Shared) (Q:Value->Shared->Prop) (E:Value->Shared->Prop),Q (.int (g i) s.toks) { s with toks:=s.toks + 1 }->wpAny (model X.prog X.w) X.A (f (.int i t)) Q E s) :
  UnR X f (rU fun i=>.int (g i)):=by
 intro pins s σ H x v Q I rx h
 obtain ⟨i,rfl,q⟩:=h
 obtain ⟨t,rfl⟩:=rx
 exact rule i t s _ _ ⟨.int (g i),H,I.tok _,⟨_,rfl⟩,q⟩
theorem Av:UnR X (unaryOp .Invert) (rU fun i=>.int (Builtin.bitNot i)):=unI fun _ _ _ _ _ q=>invert_int q
end
noncomputable def Agf:V->V->Bool
 | .non,.non=>true | .non,.int _=>true | .int _,.non=>true | .non,.bl _=>true | .bl _,.non=>true | .non,.str _=>true | .str _,.non=>true
 | .int _,.int _=>true | .bl _,.bl _=>true | .str _,.str _=>true | .byt _,.byt _=>true
 | .int _,.str _=>true | .str _,.int _=>true | .bl _,.str _=>true | .str _,.bl _=>true
 | _,_=>false
noncomputable def rEq:R2:=fun x y H Q=>Agf x y=true/\Q (.bl (decide (x=y))) H
noncomputable def rNe:R2:=fun x y H Q=>Agf x y=true/\Q (.bl (!decide (x=y))) H
theorem Ei {i j:Int}:decide (V.int i=V.int j)=(i == j):=by
 rw [Bool.eq_iff_iff]
 simp
theorem Vu {i j:Bool}:decide (V.bl i=V.bl j)=(i == j):=by
 rw [Bool.eq_iff_iff]
 simp
theorem Qo {i j:Str}:decide (V.str i=V.str j)=(i == j):=by
 rw [Bool.eq_iff_iff]
 simp
theorem Qn {i j:Array UInt8}:decide (V.byt i=V.byt j)=(i.toList == j.toList):=by
 rw [Bool.eq_iff_iff]
 cases i
 cases j
 simp
section
variable {X:Cx} {a b c:Expr} {ta tb tc:TE} {pos:Pos}
theorem E9 {pins:List (Addr × Obj)} {σ:St} {H:Hp} {s:Shared} {Q:VK} {k k':Bool} (I:Inv X pins σ H s) (q:Q (.bl k) H) (e:k=k'):EP X pins σ Q (.bool k') s:=by
 subst e
 exact ⟨.bl k,H,I,rfl,q⟩
theorem op_eq:OpR X (compareOp .Eq) rEq:=by
 intro pins s σ H x y v u Q I rx ry h
 obtain ⟨hs,q⟩:=h
 cases x with
 | non=>
  cases rx
  cases y with
  | non=>cases ry; exact PySem.EqNone.eq_none_none (E9 I q (by simp))
  | bl j=>cases ry; exact PySem.EqNone.eq_none_bool (E9 I q (by simp))
  | int j=>obtain ⟨t',rfl⟩:=ry; exact PySem.EqNone.eq_none_int (E9 I q (by simp))
  | str j=>obtain ⟨t',rfl⟩:=ry; exact PySem.EqNone.eq_none_str (E9 I q (by simp))
  | _=>exact absurd (show false=true from hs) Zf_
 | bl i=>
  cases rx
  cases y with
  | non=>cases ry; exact PySem.EqNone.eq_bool_none (E9 I q (by simp))
  | bl j=>cases ry; exact eq_bool (E9 I q Vu)
  | str j=>obtain ⟨t',rfl⟩:=ry; exact PySem.EqMixed.eq_bool_str (E9 I q (by simp))
  | _=>exact absurd (show false=true from hs) Zf_
 | int i=>
  obtain ⟨t,rfl⟩:=rx
  cases y with
  | non=>cases ry; exact PySem.EqNone.eq_int_none (E9 I q (by simp))
  | int j=>obtain ⟨t',rfl⟩:=ry; exact eq_int (E9 I q Ei)
  | str j=>obtain ⟨t',rfl⟩:=ry; exact PySem.EqMixed.eq_int_str (E9 I q (by simp))
  | _=>exact absurd (show false=true from hs) Zf_
 | str i=>
  obtain ⟨t,rfl⟩:=rx
  cases y with
  | non=>cases ry; exact PySem.EqNone.eq_str_none (E9 I q (by simp))
  | bl j=>cases ry; exact PySem.EqMixed.eq_str_bool (E9 I q (by simp))
  | int j=>obtain ⟨t',rfl⟩:=ry; exact PySem.EqMixed.eq_str_int (E9 I q (by simp))
  | str j=>obtain ⟨t',rfl⟩:=ry; exact eq_str (E9 I q Qo)
  | _=>exact absurd (show false=true from hs) Zf_
 | byt i=>
  obtain ⟨t,rfl⟩:=rx
  cases y with
  | byt j=>obtain ⟨t',rfl⟩:=ry; exact PySem.W.eq_bytes (E9 I q Qn)
  | _=>exact absurd (show false=true from hs) Zf_
 | _=>cases y <;> exact absurd (show false=true from hs) Zf_
theorem op_ne:OpR X (compareOp .NotEq) rNe:=by
 intro pins s σ H x y v u Q I rx ry h
 obtain ⟨hs,q⟩:=h
 cases x with
 | non=>
  cases rx
  cases y with
  | non=>cases ry; exact PySem.EqNone.ne_none_none (E9 I q (by simp))
  | bl j=>cases ry; exact PySem.EqNone.ne_none_bool (E9 I q (by simp))
  | int j=>obtain ⟨t',rfl⟩:=ry; exact PySem.EqNone.ne_none_int (E9 I q (by simp))
  | str j=>obtain ⟨t',rfl⟩:=ry; exact PySem.EqNone.ne_none_str (E9 I q (by simp))
  | _=>exact absurd (show false=true from hs) Zf_
 | bl i=>
  cases rx
  cases y with
  | non=>cases ry; exact PySem.EqNone.ne_bool_none (E9 I q (by simp))
  | bl j=>cases ry; exact ne_bool (E9 I q (congrArg not Vu))
  | str j=>obtain ⟨t',rfl⟩:=ry; exact PySem.EqMixed.ne_bool_str (E9 I q (by simp))
  | _=>exact absurd (show false=true from hs) Zf_
 | int i=>
  obtain ⟨t,rfl⟩:=rx
  cases y with
  | non=>cases ry; exact PySem.EqNone.ne_int_none (E9 I q (by simp))
  | int j=>obtain ⟨t',rfl⟩:=ry; exact ne_int (E9 I q (congrArg not Ei))
  | str j=>obtain ⟨t',rfl⟩:=ry; exact PySem.EqMixed.ne_int_str (E9 I q (by simp))
  | _=>exact absurd (show false=true from hs) Zf_
 | str i=>
  obtain ⟨t,rfl⟩:=rx
  cases y with
  | non=>cases ry; exact PySem.EqNone.ne_str_none (E9 I q (by simp))
  | bl j=>cases ry; exact PySem.EqMixed.ne_str_bool (E9 I q (by simp))
  | int j=>obtain ⟨t',rfl⟩:=ry; exact PySem.EqMixed.ne_str_int (E9 I q (by simp))
  | str j=>obtain ⟨t',rfl⟩:=ry; exact ne_str (E9 I q (congrArg not Qo))
  | _=>exact absurd (show false=true from hs) Zf_
 | byt i=>
  obtain ⟨t,rfl⟩:=rx
  cases y with
  | byt j=>obtain ⟨t',rfl⟩:=ry; exact PySem.W.ne_bytes (E9 I q (congrArg not Qn))
  | _=>exact absurd (show false=true from hs) Zf_
 | _=>cases y <;> exact absurd (show false=true from hs) Zf_
theorem op_lt:OpR X (compareOp .Lt) (rI0 fun i j=>.bl (decide (i < j))):=Aby fun _ _ _ _ _ _ _ q=>lt_int q
theorem op_le:OpR X (compareOp .LtE) (rI0 fun i j=>.bl (decide (i<=j))):=Aby fun _ _ _ _ _ _ _ q=>le_int q
theorem op_gt:OpR X (compareOp .Gt) (rI0 fun i j=>.bl (decide (j < i))):=Aby fun _ _ _ _ _ _ _ q=>gt_int q
theorem op_ge:OpR X (compareOp .GtE) (rI0 fun i j=>.bl (decide (j<=i))):=Aby fun _ _ _ _ _ _ _ q=>ge_int q
theorem Ui:OpR X (compareOp .In) (fun x y H Q=>∃i j,x = .str i/\y = .str j/\Q (.bl (!(Builtin.Str.occurrences j i 0 j.length 1).isEmpty)) H):=by
 intro pins s σ H x y v u Q I rx ry h
 obtain ⟨i,j,rfl,rfl,q⟩:=h
 obtain ⟨t,rfl⟩:=rx
 obtain ⟨t',rfl⟩:=ry
 exact in_str (E9 I q rfl)
theorem V8:OpR X (compareOp .Is) (fun x y H Q=>y = .non/\Q (.bl (decide (x = .non))) H):=by
 intro pins s σ H x y v u Q I rx ry h
 obtain ⟨rfl,q⟩:=h
 cases ry
 refine is_none_gen (E9 I q ?_)
 cases x <;> first
  | (cases rx; rfl)
  | (obtain ⟨t,rfl⟩:=rx; rfl)
theorem Jv:OpR X (compareOp .IsNot) (fun x y H Q=>y = .non/\Q (.bl (!decide (x = .non))) H):=by
 intro pins s σ H x y v u Q I rx ry h
 obtain ⟨rfl,q⟩:=h
 cases ry
 refine isnot_none_gen (E9 I q ?_)
 cases x <;> first
  | (cases rx; rfl)
  | (obtain ⟨t,rfl⟩:=rx; rfl)
theorem C3 (b:Expr) {op:CmpOp} (h:op≠.In:=by decide) (h2:op≠.NotIn:=by decide):behindInMarks op b=false:=by
 have e1:(op == CmpOp.In)=false:=by cases op <;> first | rfl | exact absurd rfl h
 have e2:(op == CmpOp.NotIn)=false:=by cases op <;> first | rfl | exact absurd rfl h2
 cases b <;> simp [behindInMarks,e1,e2]
theorem P3 {op:CmpOp} {r:R2} (ho:OpR X (compareOp op) r) (ha:PE X a ta) (hb:PE X b tb) (hm:behindInMarks op b=false):PE X (.Compare a [op] [b] pos) (tOp r ta tb):=by
 intro pins s σ H Q I h
 exact wpAny_Compare1 (Ada ha hb I h fun v u s2 x y H2 I2 rx ry q=>ho pins s2 σ H2 x y v u Q I2 rx ry q) hm
noncomputable def Agp (t:TE):TT:=fun σ H Q=>t σ H fun x H'=>∃k,x = .bl k/\Q k H'
theorem B1 {op:CmpOp} {r:R2} (ho:OpR X (compareOp op) r) (ha:PE X a ta) (hb:PE X b tb) (hm:behindInMarks op b=false):PT X (.Compare a [op] [b] pos) (Agp (tOp r ta tb)):=by
 intro pins s σ H Q I h
 refine wpAny_isTrue_Compare1 (thn (ha pins s σ H _ I h) fun v s1 ⟨x,H1,I1,r1,q1⟩=>thn (hb pins s1 σ H1 _ I1 q1) fun u s2 ⟨y,H2,I2,r2,q2⟩=>
  thn (ho pins s2 σ H2 x y v u _ I2 r1 r2 q2) fun c s3 ⟨z,H3,I3,r3,k,e,q3⟩=>?_) hm
 subst e
 cases r3
 exact wpAny_truthy_bool ⟨H3,I3,q3⟩
theorem Cv:(sizeLine:Nat) < 2 ^ 63:=by rw [sizeLine_eq]; decide
theorem D7:OpR X (binaryOp .Add) (fun x y H Q=>∃i j,x = .str i/\y = .str j/\i.length + j.length<=sizeLine/\Q (.str (i++j)) H):=by
 intro pins s σ H x y v u Q I rx ry h
 obtain ⟨i,j,rfl,rfl,hz,q⟩:=h
 obtain ⟨t,rfl⟩:=rx
 obtain ⟨t',rfl⟩:=ry
 exact add_str (fun t' tk=>⟨.str (i++j),H,I.tok _,⟨_,rfl⟩,q⟩) hz
theorem Z9 {x:V} {us:List Value} (r:Vals [x] us):∃u,us=[u]/\RelV x u:=by
 cases r with
 | cons r1 r2=>cases r2; exact ⟨_,rfl,r1⟩
theorem Ac6 {x y:V} {us:List Value} (r:Vals [x,y] us):∃u w',us=[u,w']/\RelV x u/\RelV y w':=by
 cases r with
 | cons r1 r2=>
  cases r2 with
  | cons r3 r4=>cases r4; exact ⟨_,_,rfl,r1,r3⟩
theorem V1:Q6 X (.type "str") (fun xs H Q=>∃i,xs=[.int i]/\i.natAbs.log2 < 1920/\Q (.str (toString i)) H):=by
 intro pins s σ H xs us Q I r h
 obtain ⟨i,rfl,hz,q⟩:=h
 obtain ⟨u,rfl,t,rfl⟩:=Z9 r
 exact PySem.P.str_of_int hz ⟨.str _,H,I.tok _,⟨_,rfl⟩,q⟩
noncomputable def Agu (K:Θf) (x:V) (H:Hp) (n:Nat):Prop:=
 match x with
 | .str y=>y.length<=sizeLine/\n=y.length
 | .byt y=>y.size<=sizeLine/\n=y.size
 | .ref p=>(∃xs,SqL K H p xs/\n=xs.length)\/∃xs,SqT K H p xs/\n=xs.length
 | _=>False
theorem Vo:Q6 X (.builtin "len") (fun xs H Q=>∃x n,xs=[x]/\Agu X.K x H n/\Q (.int n) H):=by
 intro pins s σ H xs us Q I r h
 obtain ⟨x,n,rfl,e,q⟩:=h
 obtain ⟨u,rfl,rx⟩:=Z9 r
 have hl:=Cv
 have hs:sizeLine=16777216:=sizeLine_eq
 cases x with
 | str y=>
  obtain ⟨t,rfl⟩:=rx
  obtain ⟨hy,e'⟩:y.length<=sizeLine/\n=y.length:=e
  subst e'
  exact len_str (by omega) ⟨.int _,H,I.tok _,⟨_,rfl⟩,q⟩
 | byt y=>
  obtain ⟨t,rfl⟩:=rx
  obtain ⟨hy,e'⟩:y.size<=sizeLine/\n=y.size:=e
  subst e'
  exact PySem.W.len_bytes (by omega) ⟨.int _,H,I.tok _,⟨_,rfl⟩,q⟩
 | ref p=>
  cases rx
  have e':(∃xs,SqL X.K H p xs/\n=xs.length)\/∃xs,SqT X.K H p xs/\n=xs.length:=e
  rcases e' with ⟨xs,hx,e'⟩ | ⟨xs,hx,e'⟩
  ·subst e'
   obtain ⟨its,r',pl,hz⟩:=I.list hx
   have hlen:=r'.length
   exact Calls.call_len_list pl.isList (by simp only [List.size_toArray]; omega) ⟨.int xs.length,H,I.tok _,⟨_,by simp only [List.size_toArray]; rw [hlen]⟩,q⟩
  ·subst e'
   obtain ⟨its,r',pl,hz⟩:=I.tuple hx
   have hlen:=r'.length
   exact len_tuple pl (by simp only [List.size_toArray]; omega) ⟨.int xs.length,H,I.tok _,⟨_,by simp only [List.size_toArray]; rw [hlen]⟩,q⟩
 | _=>exact (show False from e).elim
end
structure ObjM (h:Heap) (x dx C:Addr) (mA:Str->Option Value):Prop where
 obj:h.get? x=some (PySem.W.instObj C dx)
 ns:h.Ns1 dx mA
 ne:dx≠x
theorem Tk {h:Heap} {dx:Addr} {mA:Str->Option Value} (n:h.Ns1 dx mA):∃od,h.get? dx=some od/\∀name,PySem.W.lookIn name od=some (mA name):=by
 obtain ⟨o,es,ep,ho,hd,hk,_,hm⟩:=n
 refine ⟨o,ho,fun name=>?_⟩
 have e:=hm name
 unfold nsFind findBy at e
 rw [<-Array.find?_toList] at e
 unfold PySem.W.lookIn
 rw [hd]
 dsimp only
 split
 ·rename_i y q
  rw [q] at e
  exact congrArg some e
 ·rename_i q
  rw [q] at e
  have a:es.toList.any (·.refKey)=false:=by
   rw [List.any_eq_false]
   intro y hy
   obtain ⟨z,t,hkey⟩:=hk y (Array.mem_toList_iff.mp hy)
   simp [DictEntry.refKey,hkey]
  have a':¬es.toList.any (·.refKey)=true:=by rw [a]; exact Zf_
  rw [if_neg a']
  exact congrArg some e
theorem ObjM.look {h:Heap} {x dx C:Addr} {mA:Str->Option Value} (I:ObjM h x dx C mA):∃od,PySem.W.InstAt h x (PySem.W.instObj C dx) C (some od)/\∀name,PySem.W.lookIn name od=some (mA name):=
 let ⟨od,ho,hl⟩:=Tk I.ns
 ⟨od,⟨I.obj,rfl,rfl,ho⟩,hl⟩
section
variable {prog:Program} {w:World} {A:Around} {E:Value->Shared->Prop} {s:Shared} {K:Θf} {x dx C f:Addr} {mA:Str->Option Value} {name:Str} {v:Value}
theorem Aa5 {expr:Bool} {Q:Value->Shared->Prop} (X:K.In s.heap) (I:ObjM s.heap x dx C mA) (hg:PySem.W.plainGet K C name=true) (hh:PySem.W.hasDictIn K C=true)
  (ha:PySem.W.findIn K (.ref C) name=some none) (hv:mA name=some v) (hv':PySem.W.handedIn v=true) (h:Q v { s with toks:=s.toks + 1 }) :
  wpAny (model prog w) A (getAttr (.ref x) name expr) Q E s:=by
 obtain ⟨od,J,hl⟩:=I.look
 exact PySem.W.get_value X J (PySem.W.plainGet_of hg).1 (PySem.W.findObj_own hh ha rfl (by rw [hl,hv])) hv' h
theorem Wn {pl:Sem Bool} {Q:Value × List Value->Shared->Prop} (X:K.In s.heap) (I:ObjM s.heap x dx C mA) (hg:PySem.W.plainGet K C name=true)
  (hf:PySem.W.findIn K (.ref C) name=some (some (.ref f))) (ht:PySem.W.isFn K (.ref f)=true) (hv:mA name=none) (h:Q (.ref f,[.ref x]) s) :
  wpAny (model prog w) A (getMethod (.ref x) name pl) Q E s:=by
 obtain ⟨od,J,hl⟩:=I.look
 exact PySem.W.method_fn X J (PySem.W.plainGet_of hg).1 (PySem.W.plainGet_of hg).2 hf (beq_iff_eq.mp ht) (by show (PySem.W.lookIn name od).map (·.isSome)=some false; rw [hl,hv]; rfl) h
theorem Acf {ns:List Str} {Q:Unit->Shared->Prop} (X:K.In s.heap) (I:ObjM s.heap x dx C mA)
  (hs:PySem.W.findIn K (.ref C) "__setattr__" = some (some (.builtin "object.__setattr__"))) (hp:PySem.W.plainOver K C=true) (ht:PySem.W.takerIn K C name=some none) (hh:PySem.W.hasDictIn K C=true)
  (hw:PySem.Within mA ns) (hsz:ns.length<=sizeLine)
  (h:∀h',ObjM h' x dx C (fun y=>if y=name then some v else mA y)->Heap.SameBut dx s.heap h'->Q () { s with heap:=h',toks:=s.toks + 2 }) :
  wpAny (model prog w) A (setAttr (.ref x) name v) Q E s:=by
 obtain ⟨od,J,hl⟩:=I.look
 refine PySem.W.set_plain X J hs (PySem.W.osa_open (s:={ s with toks:=s.toks + 1 }) (r:=none) X J hp ht fun b=>?_)
 obtain ⟨cd,hc,hd'⟩:=PySem.W.any_some hh
 have hx:s.heap.get? x=some ⟨.ref C,some dx,.plain,#[]⟩:=I.obj
 refine Za_ (Zb_ (Za_ (Za_ (wpAny_loadPart hx (Za_ (PySem.W.Looks.here (s:={ s with toks:=s.toks + 1 }) (PySem.W.looks_clsIn X hc) ?_))))))
 rw [hd']
 refine Zb_ (a:=some dx) (Za_ (Zb_ (Za_ ?_)))
 refine wpAny_nsSet1 (s:={ s with toks:=s.toks + 1 }) I.ns fun h' hn2 hs2=>?_
 obtain ⟨oD,esD,epD,hoD,hdD,hcD⟩:=hn2.count (PySem.Within.cons name v hw)
 refine Za_ (wpAny_lookBehind hoD (by rw [hdD]; exact pastItsLine_dict (Zo_ hcD (by rw [ZA]; omega))) ?_)
 exact Zb_ (h _ ⟨(hs2.2 _ (Ne.symm I.ne)).trans I.obj,hn2,I.ne⟩ hs2)
theorem Xe {R:Result->Shared->Prop} {vs:List Value} {kw:List (Str × Value)} (X:K.In s.heap) (hm:PySem.W.makesIn K C=true)
  (hi:PySem.W.findIn K (.ref C) "__init__" = some (some (.ref f))) (hf:PySem.W.typeIn K (.ref f)=some (.type "function"))
  (h:codeAny (model prog w) (A.under (.builtin "type.__call__" ⟨.ref C :: vs,kw⟩)) (.call (.ref f) ⟨.ref (s.heap.objs.size + 1) :: vs,kw⟩) (PySem.W.InitBack (s.heap.objs.size + 1) R)
   { s with heap:=(s.heap.push PySem.W.emptyDict).push (PySem.W.instObj C s.heap.objs.size) }) :
  codeAny (model prog w) A (.call (.ref C) ⟨vs,kw⟩) R s:=by
 obtain ⟨hh,g,d,t,os⟩:=s
 exact PySem.W.make_core (PySem.W.makes_of X hm) (PySem.W.looks_findIn X hi) (fun self=>PySem.W.bind_fn X self hf) (.inl rfl) h
end
noncomputable def X5 (f:Str) (v:V):List (Str × V)->List (Str × V)
 | []=>[(f,v)]
 | (g,x) :: r=>if g=f then (g,v) :: r else (g,x) :: X5 f v r
theorem Ea (f g:Str) (v:V):∀fs:List (Str × V),(X5 f v fs).lookup g=if g=f then some v else fs.lookup g
 | []=>by
  show List.lookup g [(f,v)]=_
  by_cases h:g=f
  ·have hb:(g == f)=true:=beq_iff_eq.mpr h
   simp only [List.lookup,hb,if_pos h]
  ·have hb:(g == f)=false:=beq_eq_false_iff_ne.mpr h
   simp only [List.lookup,hb,if_neg h]
 | (k,x) :: r=>by
  have ih:=Ea f g v r
  rw [show X5 f v ((k,x) :: r)=(if k=f then (k,v) :: r else (k,x) :: X5 f v r) from rfl]
  by_cases hk:k=f
  ·rw [if_pos hk]
   by_cases h:g=k
   ·have hb:(g == k)=true:=beq_iff_eq.mpr h
    simp only [List.lookup,hb,if_pos (h.trans hk)]
   ·have hb:(g == k)=false:=beq_eq_false_iff_ne.mpr h
    simp only [List.lookup,hb,if_neg (fun e:g=f=>h (e.trans hk.symm))]
  ·rw [if_neg hk]
   by_cases h:g=k
   ·have hb:(g == k)=true:=beq_iff_eq.mpr h
    simp only [List.lookup,hb,if_neg (fun e:g=f=>hk (h.symm.trans e))]
   ·have hb:(g == k)=false:=beq_eq_false_iff_ne.mpr h
    simp only [List.lookup,hb]
    exact ih
theorem Cu (f:Str) (v:V):∀fs:List (Str × V),f∈(X5 f v fs).map (·.1)/\∀g,g∈fs.map (·.1)->g∈(X5 f v fs).map (·.1)
 | []=>⟨by simp [X5],fun g h=>by simp at h⟩
 | (k,x) :: r=>by
  obtain ⟨i1,i2⟩:=Cu f v r
  rw [show X5 f v ((k,x) :: r)=(if k=f then (k,v) :: r else (k,x) :: X5 f v r) from rfl]
  by_cases hk:k=f
  ·rw [if_pos hk]
   subst hk
   exact ⟨by simp,fun g h=>by simpa using h⟩
  ·rw [if_neg hk]
   refine ⟨?_,fun g h=>?_⟩
   ·rw [List.map_cons]
    exact Θd _ i1
   ·rw [List.map_cons] at h ⊢
    rcases Zg_.mp h with e | e
    ·exact Zg_.mpr (.inl e)
    ·exact Θd _ (i2 g e)
theorem Dy (f:Str) (v:V):∀fs:List (Str × V),(X5 f v fs).length<=fs.length + 1
 | []=>by simp [X5]
 | (k,x) :: r=>by
  have ih:=Dy f v r
  rw [show X5 f v ((k,x) :: r)=(if k=f then (k,v) :: r else (k,x) :: X5 f v r) from rfl]
  by_cases hk:k=f
  ·rw [if_pos hk,ZA,ZA]; omega
  ·rw [if_neg hk,ZA,ZA]; omega
theorem RelO.some_of {v:V} {o:Option Value} (r:RelO (some v) o):∃u,o=some u/\RelV v u:=by
 cases o with
 | none=>exact (show False from r).elim
 | some u=>exact ⟨u,rfl,r⟩
theorem RelO.none_of {o:Option Value} (r:RelO none o):o=none:=by
 cases o with
 | none=>rfl
 | some u=>exact (show False from r).elim
theorem Td {v:V} {u:Value} (r:RelV v u):PySem.W.handedIn u=true:=by
 cases v with
 | non=>cases (show u=Value.none from r); rfl
 | bl b=>cases (show u=Value.bool b from r); rfl
 | int i=>obtain ⟨t,e⟩:=(show ∃t,u=Value.int i t from r); cases e; rfl
 | str x=>obtain ⟨t,e⟩:=(show ∃t,u=Value.str x t from r); cases e; rfl
 | byt b=>obtain ⟨t,e⟩:=(show ∃t,u=Value.bytes b t from r); cases e; rfl
 | flt b=>obtain ⟨t,e⟩:=(show ∃t,u=Value.float b t from r); cases e; rfl
 | ref a=>cases (show u=Value.ref a from r); rfl
 | ty n=>cases (show u=Value.type n from r); rfl
section
variable {P:Program} {w:World} {H H':Hp} {h h':Heap} {a C dx:Addr} {fs fs':List (Str × V)}
theorem Em (hok:HOk P w H h) (e:H a=some (.ins C dx fs)):∃mA,ObjM h a dx C mA/\(∀f,RelO (fs.lookup f) (mA f))/\PySem.Within mA (fs.map (·.1))/\fs.length<=1000/\H dx=some (.own a):=by
 obtain ⟨d,z,ne,ob,mA,n,r,q⟩:=(show ObjOk P w H h a (.ins C dx fs) from hok a _ e)
 exact ⟨mA,⟨ob,n,ne⟩,r,q,z,d⟩
end
structure Cls (K:Θf) (C:Addr):Prop where
 pg:PySem.W.plainGet K C Str.empty=true
 hd:PySem.W.hasDictIn K C=true
 po:PySem.W.plainOver K C=true
 sa:PySem.W.findIn K (.ref C) "__setattr__" = some (some (.builtin "object.__setattr__"))
theorem Cls.get {K:Θf} {C:Addr} (c:Cls K C) (f:Str):PySem.W.plainGet K C f=true:=c.pg
noncomputable def NoAttr (K:Θf) (C:Addr) (f:Str):Prop:=PySem.W.findIn K (.ref C) f=some none
theorem NoAttr.taker {K:Θf} {C:Addr} {f:Str} (n:NoAttr K C f):PySem.W.takerIn K C f=some none:=by
 unfold PySem.W.takerIn
 rw [show PySem.W.findIn K (.ref C) f=some none from n]
 rfl
structure Meth (K:Θf) (C:Addr) (m:Str) (f:Addr):Prop where
 at_:PySem.W.findIn K (.ref C) m=some (some (.ref f))
 fn:PySem.W.isFn K (.ref f)=true
 kp:Θk K f
section
variable {X:Cx} {pins:List (Addr × Obj)} {σ:St} {H:Hp} {s:Shared} {a C dx:Addr} {fs:List (Str × V)} {f:Str} {v:V} {A:Around} {E:Value->Shared->Prop}
theorem Nz {b:Bool} {Q:Value->Shared->Prop} (I:Inv X pins σ H s) (e:H a=some (.ins C dx fs)) (c:Cls X.K C) (n:NoAttr X.K C f) (l:fs.lookup f=some v)
  (h:∀u s',Inv X pins σ H s'->RelV v u->Q u s'):wpAny (model X.prog X.w) A (getAttr (.ref a) f b) Q E s:=by
 obtain ⟨mA,O,r,_,_,_⟩:=Em I.hok e
 obtain ⟨u,hu,ru⟩:=RelO.some_of (v:=v) (o:=mA f) (by rw [<-l]; exact r f)
 exact Aa5 I.kIn O (c.get f) c.hd n hu (Td ru) (h u _ (I.tok _) ru)
theorem Ah {m:Str} {g:Addr} {pl:Sem Bool} {Q:Value × List Value->Shared->Prop} (I:Inv X pins σ H s) (e:H a=some (.ins C dx fs)) (c:Cls X.K C) (k:Meth X.K C m g) (l:fs.lookup m=none)
  (h:Q (.ref g,[.ref a]) s):wpAny (model X.prog X.w) A (getMethod (.ref a) m pl) Q E s:=by
 obtain ⟨mA,O,r,_,_,_⟩:=Em I.hok e
 have hn:mA m=none:=RelO.none_of (by rw [<-l]; exact r m)
 exact Wn I.kIn O (c.get m) k.at_ k.fn hn h
theorem Pr {y:V} {u:Value} {Q:Unit->Shared->Prop} (I:Inv X pins σ H s) (e:H a=some (.ins C dx fs)) (c:Cls X.K C) (n:NoAttr X.K C f) (hl:fs.length < 1000) (ry:RelV y u)
  (h:∀s',Inv X pins σ (upd H a (.ins C dx (X5 f y fs))) s'->Q () s'):wpAny (model X.prog X.w) A (setAttr (.ref a) f u) Q E s:=by
 obtain ⟨mA,O,r,wi,_,ho⟩:=Em I.hok e
 have hz:(fs.map (·.1)).length<=sizeLine:=by rw [Θl,sizeLine_eq]; omega
 refine Acf I.kIn O c.sa c.po n.taker c.hd wi hz fun h' O' sb=>h _ ?_
 have hd:∃o,h'.get? dx=some o:=let ⟨o,_,_,e',_⟩:=O'.ns; ⟨o,e'⟩
 refine I.write (x:=a) (e:=dx) (by rw [e]; exact True.intro) (.inr ho) (fun b q hb z=>(sb.2 b hb).trans z) hd ?_
 refine ⟨by rw [C6 O.ne]; exact ho,?_,O.ne,O'.obj,_,O'.ns,fun g=>?_,fun g hg=>?_⟩
 ·have:=Dy f y fs; omega
 ·show RelO ((X5 f y fs).lookup g) (if g=f then some u else mA g)
  rw [Ea]
  by_cases q:g=f
  ·rw [if_pos q,if_pos q]; exact ry
  ·rw [if_neg q,if_neg q]; exact r g
 ·by_cases q:g=f
  ·rw [q]; exact (Cu f y fs).1
  ·refine (Cu f y fs).2 g (wi g fun z=>hg ?_)
   show (if g=f then some u else mA g)=none
   rw [if_neg q]; exact z
theorem Inv.made (I:Inv X pins σ H s):Inv X pins σ (upd (upd H s.heap.objs.size (.own (s.heap.objs.size + 1))) (s.heap.objs.size + 1) (.ins C s.heap.objs.size []))
  { s with heap:=(s.heap.push PySem.W.emptyDict).push (PySem.W.instObj C s.heap.objs.size) }:=by
 have e1:(s.heap.push PySem.W.emptyDict).get? s.heap.objs.size=some PySem.W.emptyDict:=Zm_ s.heap rfl
 have e2:((s.heap.push PySem.W.emptyDict).push (PySem.W.instObj C s.heap.objs.size)).get? (s.heap.objs.size + 1)=some (PySem.W.instObj C s.heap.objs.size):=by
  have:=Zm_ (s.heap.push PySem.W.emptyDict) (o:=PySem.W.instObj C s.heap.objs.size) rfl
  rwa [Heap.size_push] at this
 have e3:(s.heap.push PySem.W.emptyDict).Ns s.heap.objs.size (fun _=>none):=⟨PySem.W.emptyDict,#[],_,e1,rfl,(fun e he=>absurd he (by simp)),fun _=>rfl⟩
 have I1:=I.laid (a:=s.heap.objs.size) (o:=.own (s.heap.objs.size + 1)) (h':=s.heap.push PySem.W.emptyDict) (t':=s.toks) (fun b u q=>Zc_ _ q) (Zd_ _) ⟨_,e1⟩
 refine I1.laid (a:=s.heap.objs.size + 1) (o:=.ins C s.heap.objs.size []) (t':=s.toks) (fun b u q=>Zc_ _ q) (Nat.le_of_eq (Heap.size_push _ _)) ?_
 have ne:s.heap.objs.size≠s.heap.objs.size + 1:=Zs_ (Nat.lt_succ_self _)
 refine ⟨by rw [C6 ne,A3],Zp_ _,ne,e2,fun _=>none,(Heap.Ns1.of_empty e3).at fun o q=>Zc_ _ q,fun _=>True.intro,fun y hy=>absurd rfl hy⟩
theorem Aau {prog:Program} {w:World} {env:Env} {e:Expr} {f:Str} {pos:Pos} {s:Shared} {Q:Value->Shared->Prop} (hb:attributeBase e f env (eval e env)=eval e env)
  (h:wpAny (model prog w) A (eval e env) (fun o s₁=>wpAny (model prog w) A (getAttr o f true) Q E s₁) E s):wpAny (model prog w) A (eval (.Attribute e f pos) env) Q E s:=
 Attribute_any_ h (by rw [arm_eval_Attribute,hb])
end
noncomputable def Agk (K:Θf) (ta:TE) (f:Str):TE:=fun σ H Q=>ta σ H fun x H1=>∃a C dx fs v,x = .ref a/\H1 a=some (.ins C dx fs)/\Cls K C/\NoAttr K C f/\fs.lookup f=some v/\Q v H1
noncomputable def Aha (K:Θf) (ta tv:TE) (f:Str):TS:=fun D σ H=>tv σ H fun y H1=>ta σ H1 fun x H2=>∃a C dx fs,x = .ref a/\H2 a=some (.ins C dx fs)/\Cls K C/\NoAttr K C f/\fs.length < 1000/\
 D.nx σ (upd H2 a (.ins C dx (X5 f y fs)))
section
variable {X:Cx} {o e value:Expr} {f:Str} {pos pos' tpos:Pos} {ta tv:TE}
theorem Aeh (he:PE X e ta) (hb:attributeBase e f X.env (eval e X.env)=eval e X.env):PE X (.Attribute e f pos) (Agk X.K ta f):=by
 intro pins s σ H Q I h
 refine Aau hb (thn (he pins s σ H _ I h) fun u s1 ⟨x,H1,I1,rx,a,C,dx,fs,v,ex,ea,c,n,l,q⟩=>?_)
 subst ex
 obtain rfl:u=Value.ref a:=rx
 exact Nz I1 ea c n l fun u' s2 I2 ru=>⟨v,H1,I2,ru,q⟩
theorem Jy (ha:PE X o ta) (hv:PE X value tv) (hs:swapsWith value (some (.Attribute o f pos')) pos.line X.env=pure false):PS X (.Assign [.Attribute o f pos'] value pos) (Aha X.K ta tv f):=by
 intro pins s σ H D I h
 refine plainObj_wpAny_Assign_Attribute (thn (hv pins s σ H _ I h) fun u s1 ⟨y,H1,I1,ry,q⟩=>thn (ha pins s1 σ H1 _ I1 q) fun ov s2 ⟨x,H2,I2,rx,a,C,dx,fs,ex,ea,c,n,l,q2⟩=>?_) hs
 subst ex
 obtain rfl:ov=Value.ref a:=rx
 exact Pr I2 ea c n l ry fun s3 I3=>⟨σ,_,I3,q2⟩
end
section
variable {X:Cx} {pins:List (Addr × Obj)} {σ:St} {H:Hp} {s:Shared} {A:Around} {E:Value->Shared->Prop} {Q:Value->Shared->Prop} {c:Value} {b:Bool}
inductive TyOf (K:Θf) (H:Hp):V->Value->Prop where
 | non:TyOf K H .non (.type "NoneType")
 | bl (x:Bool):TyOf K H (.bl x) (.type "bool")
 | int (i:Int):TyOf K H (.int i) (.type "int")
 | str (x:Str):TyOf K H (.str x) (.type "str")
 | flt (x:UInt64):TyOf K H (.flt x) (.type "float")
 | lst {a:Addr} {xs:List V} (e:H a=some (.lst xs)):TyOf K H (.ref a) (.type "list")
 | frz {a:Addr} {o:Obj} {xs:List V} (e:H a=some (.frz o (.lst xs))):TyOf K H (.ref a) (.type "list")
 | tup {a:Addr} {xs:List V} (e:H a=some (.tup xs)):TyOf K H (.ref a) (.type "tuple")
 | dK {a:Addr} {kvs:List (Key × V)} (e:H a=some (.dK kvs)):TyOf K H (.ref a) (.type "dict")
 | dT {a:Addr} {kvs:List (List Key × V)} (e:H a=some (.dT kvs)):TyOf K H (.ref a) (.type "dict")
 | ins {a C dx:Addr} {fs:List (Str × V)} (e:H a=some (.ins C dx fs)) (cl:Cls K C) (ha:PySem.W.findIn K (.ref C) "__class__" = some (some (.builtin "object.__class__")))
   (hn:PySem.W.specialIn K (.builtin "object.__class__") "__get__" = some (some (.builtin "getset_descriptor.__get__"))) (htk:PySem.W.takesIn K (.builtin "object.__class__")=some true)
   (hm:PySem.W.mroIn K C (.type "object")=some true):TyOf K H (.ref a) (.ref C)
theorem Tg {x:V} {u t:Value} (I:Inv X pins σ H s) (rx:RelV x u) (ty:TyOf X.K H x t) (e:PySem.W.kitOne X.K t c=some b) (h:∀tk,Q (.bool b) { s with toks:=tk }) :
  wpAny (model X.prog X.w) A (call (.builtin "isinstance") [u,c]) Q E s:=by
 cases ty with
 | non=>cases (show u=Value.none from rx); exact PySem.W.kia_one PySem.W.kitx_none I.kIn True.intro e (fun z=>nomatch z) h
 | bl y=>cases (show u=Value.bool y from rx); exact PySem.W.kia_one PySem.W.kitx_bool I.kIn True.intro e (fun z=>nomatch z) h
 | int i=>obtain ⟨t,q⟩:=(show ∃t,u=Value.int i t from rx); cases q; exact PySem.W.kia_one PySem.W.kitx_int I.kIn True.intro e (fun z=>nomatch z) h
 | str y=>obtain ⟨t,q⟩:=(show ∃t,u=Value.str y t from rx); cases q; exact PySem.W.kia_one PySem.W.kitx_str I.kIn True.intro e (fun z=>nomatch z) h
 | flt y=>obtain ⟨t,q⟩:=(show ∃t,u=Value.float y t from rx); cases q; exact PySem.W.kia_one PySem.W.kitx_float I.kIn True.intro e (fun z=>nomatch z) h
 | @lst a xs ea=>
  cases (show u=Value.ref a from rx)
  obtain ⟨_,_,n,_,h1⟩:=(show ObjOk X.prog X.w H s.heap a (.lst xs) from I.hok a _ ea)
  exact PySem.W.kia_one PySem.W.kitx_list I.kIn ⟨_,h1,rfl⟩ e (fun z=>nomatch z) h
 | @frz a ob xs ea=>
  cases (show u=Value.ref a from rx)
  obtain ⟨_,_,_,n,_,h1⟩:=(show ObjOk X.prog X.w H s.heap a (.frz ob (.lst xs)) from I.hok a _ ea)
  exact PySem.W.kia_one PySem.W.kitx_list I.kIn ⟨_,h1,rfl⟩ e (fun z=>nomatch z) h
 | @tup a xs ea=>
  cases (show u=Value.ref a from rx)
  obtain ⟨_,_,_,p⟩:=(show ObjOk X.prog X.w H s.heap a (.tup xs) from I.hok a _ ea)
  obtain ⟨o,h1,h2,_⟩:=p
  exact PySem.W.kia_one PySem.W.kitx_tuple I.kIn ⟨o,h1,h2⟩ e (fun z=>nomatch z) h
 | @dK a kvs ea=>
  cases (show u=Value.ref a from rx)
  obtain ⟨_,_,vs,_,p⟩:=(show ObjOk X.prog X.w H s.heap a (.dK kvs) from I.hok a _ ea)
  obtain ⟨o,es,ep,h1,h2,_⟩:=p
  exact PySem.W.kia_one PySem.W.kitx_dict I.kIn ⟨o,h1,h2.1⟩ e (fun z=>nomatch z) h
 | @dT a kvs ea=>
  cases (show u=Value.ref a from rx)
  obtain ⟨_,_,xs,_,o,es,ep,h1,h2,_⟩:=(show ObjOk X.prog X.w H s.heap a (.dT kvs) from I.hok a _ ea)
  exact PySem.W.kia_one PySem.W.kitx_dict I.kIn ⟨o,h1,h2.1⟩ e (fun z=>nomatch z) h
 | @ins a C dx fs ea cl ha hn htk hm=>
  cases (show u=Value.ref a from rx)
  obtain ⟨mA,O,_⟩:=Em I.hok ea
  obtain ⟨od,J,_⟩:=O.look
  exact PySem.W.kia_one (PySem.W.kitx_own (cl.get _) cl.hd ha hn htk hm) I.kIn J e (fun z=>nomatch z) h
end
structure Room (k:Nat) (A:Around):Prop where
 hd:A.handled=none
 dp:A.depth + 3 * k + 5 < recursionLimit
 un:A.units + 16 * k + 200 < cLine
theorem Room.mono {j k:Nat} {A:Around} (r:Room k A) (h:j<=k):Room j A:=⟨r.hd,by have:=r.dp; omega,by have:=r.un; omega⟩
theorem Room.deeper {k:Nat} {A:Around} (r:Room (k + 1) A) (env:Env):Room k (A.deeper env):=
 ⟨r.hd,by have:=r.dp; show A.depth + 1 + 3 * k + 5 < _; omega,by have:=r.un; show A.units + 3 + 16 * k + 200 < _; omega⟩
theorem Oi {A:Around} {C:Addr} {us:List Value} {kw:List (Str × Value)}:(A.under (.builtin "type.__call__" ⟨.ref C :: us,kw⟩)).depth=A.depth + 1:=by
 first | rfl | simp [Around.under,Code.weight,Code.isCreation,Code.isGuard,Code.isCaller,Code.frames,Code.isFrame,guardIds]
theorem Oj {A:Around} {C:Addr} {us:List Value} {kw:List (Str × Value)}:(A.under (.builtin "type.__call__" ⟨.ref C :: us,kw⟩)).units=A.units + 1:=by
 first | rfl | simp [Around.under,Code.cUnits,Code.frames,Code.isFrame]
theorem Room.make {k:Nat} {A:Around} (r:Room (k + 1) A) (C:Addr) (us:List Value) (kw:List (Str × Value)):Room k (A.under (.builtin "type.__call__" ⟨.ref C :: us,kw⟩)):=
 ⟨r.hd,by have:=r.dp; rw [Oi]; omega,by have:=r.un; rw [Oj]; omega⟩
theorem Room.depth {k:Nat} {A:Around} (r:Room k A):A.depth < recursionLimit:=by have:=r.dp; omega
theorem Room.units {k:Nat} {A:Around} (r:Room k A):A.units + 64 < cLine:=by have:=r.un; omega
noncomputable def Ahk:TA:=fun _ H Q=>Q [] H
noncomputable def Ac5 (ta:TE) (tr:TA):TA:=fun σ H Q=>ta σ H fun x H1=>tr σ H1 fun xs H2=>Q (x :: xs) H2
section
variable {X:Cx} {e:Expr} {es:List Expr} {te:TE} {t:TA} {pos:Pos}
theorem A1:PA X [] Ahk:=fun _ _ _ _ H Q I h=>Calls.spliced_nil ⟨[],H,I,.nil,h⟩
theorem A0 (ha:PE X e te) (hr:PA X es t) (hs:starEach (e :: es) X.env=(false,eval e X.env) :: starEach es X.env:=by rfl):PA X (e :: es) (Ac5 te t):=by
 intro pos pins s σ H Q I h
 rw [hs]
 show wpAny _ _ (spliced ((false,eval e X.env) :: backTo pos (starEach es X.env))) _ _ s
 refine Calls.spliced_cons (thn (ha pins s σ H _ I h) fun u s1 ⟨x,H1,I1,r1,q1⟩=>?_)
 exact thn (hr pos pins s1 σ H1 _ I1 q1) fun us s2 ⟨xs,H2,I2,r2,q2⟩=>⟨x :: xs,H2,I2,.cons r1 r2,q2⟩
noncomputable def Ahp (t:TA):TE:=fun σ H Q=>t σ H fun xs H1=>xs.length<=sizeLine/\∀p,H1 p=none->Q (.ref p) (upd H1 p (.tup xs))
noncomputable def Ahj (t:TA):TE:=fun σ H Q=>t σ H fun xs H1=>xs.length<=sizeLine/\∀p,H1 p=none->Q (.ref p) (upd H1 p (.lst xs))
theorem F2 {x1} (h:PA X es t):PE X (.Tuple es x1 pos) (Ahp t):=by
 intro pins s σ H Q I hq
 refine wpAny_Tuple_spliced (thn (h pos pins s σ H _ I hq) fun us s1 ⟨xs,H1,I1,r,z,q⟩=>⟨by rw [<-r.length]; exact z,?_⟩)
 have hf:H1 s1.heap.objs.size=none:=I1.hok.fresh (Zd_ _)
 refine ⟨.ref s1.heap.objs.size,upd H1 s1.heap.objs.size (.tup xs),I1.laid (t':=s1.toks) (fun b u e=>Zc_ _ e) (Zd_ _) ?_,rfl,q _ hf⟩
 exact ⟨z,us,r,⟨_,Zm_ _ rfl,rfl,_,rfl⟩⟩
theorem E5 (h:PA X es t):PE X (.List es pos) (Ahj t):=by
 intro pins s σ H Q I hq
 refine wpAny_List_spliced (thn (h pos pins s σ H _ I hq) fun us s1 ⟨xs,H1,I1,r,z,q⟩=>⟨by rw [<-r.length]; exact z,?_⟩)
 have hf:H1 s1.heap.objs.size=none:=I1.hok.fresh (Zd_ _)
 refine ⟨.ref s1.heap.objs.size,upd H1 s1.heap.objs.size (.lst xs),I1.laid (t':=s1.toks) (fun b u e=>Zc_ _ e) (Zd_ _) ?_,rfl,q _ hf⟩
 exact ⟨z,us,0,r,Zm_ _ rfl⟩
end
noncomputable abbrev Sp:=List V->Hp->VK->XK->Prop
noncomputable abbrev CXT:=List Env->Hp->Shared->XK->Value->Shared->Prop
structure Env0 (P:Program) (w:World) (K:Θf) (mg:Str->Option Value) (base:Heap) (A:Around) (outer:List Env) (s:Shared) (H:Hp):Prop where
 frames:A.frames=some outer
 mod:Mod K mg base
 bs:∀b o,base.get? b=some o->s.heap.get? b=some o/\H b=none
 bsz:base.objs.size<=s.heap.objs.size
 funs:s.heap.FunFrames base outer
 frf:∀b∈frs outer,H b=none
 hok:HOk P w H s.heap
 bare:AllBare s.gens
noncomputable def CE (outer:List Env) (P:Program) (w:World) (H:Hp) (s:Shared) (Q:VK) (u:Value) (s':Shared):Prop:=
 ∃v H',s'.os=s.os/\AllBare s'.gens/\Un (frs outer) [] H H' s.heap s'.heap/\HOk P w H' s'.heap/\RelV v u/\Q v H'
noncomputable def CR (CX:CXT) (outer:List Env) (P:Program) (w:World) (H:Hp) (s:Shared) (Q:VK) (E:XK) (r:Result) (s':Shared):Prop:=
 match r with
 | .ok (.ret u)=>CE outer P w H s Q u s'
 | .ok _=>False
 | .error e=>CX outer H s E e s'
structure FnOk (P:Program) (w:World) (K:Θf) (mg:Str->Option Value) (base:Heap) (CX:CXT) (k:Nat) (f:Addr) (fd:FuncData) (ps:List Str) (sp:Sp):Prop where
 len:∀vs H Q E,sp vs H Q E->vs.length=ps.length
 run:∀(A:Around) (outer:List Env) (s:Shared) (H:Hp) (args:Args) (us:List Value) (vs:List V) (Q:VK) (E:XK),Room k A->Env0 P w K mg base A outer s H->BindsTo s fd args (ps.zip us)->Vals vs us->sp vs H Q E->
  codeAny (model P w) A (.call (.ref f) args) (CR CX outer P w H s Q E) s
theorem FnOk.imp {P:Program} {w:World} {K:Θf} {mg:Str->Option Value} {base:Heap} {CX:CXT} {k:Nat} {f:Addr} {fd:FuncData} {ps:List Str} {sp sp':Sp} (F:FnOk P w K mg base CX k f fd ps sp)
  (h:∀vs H Q E,sp' vs H Q E->sp vs H Q E):FnOk P w K mg base CX k f fd ps sp':=
 ⟨fun vs H Q E q=>F.len vs H Q E (h _ _ _ _ q),fun A outer s H args us vs Q E hr he hb hv hs=>F.run A outer s H args us vs Q E hr he hb hv (h _ _ _ _ hs)⟩
theorem Env0.make {P:Program} {w:World} {K:Θf} {mg:Str->Option Value} {base:Heap} {A:Around} {outer:List Env} {s:Shared} {H:Hp} (e:Env0 P w K mg base A outer s H) (C:Addr) (us:List Value) (kw:List (Str × Value)) :
  Env0 P w K mg base (A.under (.builtin "type.__call__" ⟨.ref C :: us,kw⟩)) outer s H:=⟨by first | exact e.frames | (simpa [Around.under,Code.envs,Code.isFrame,pushEnvs] using e.frames),e.mod,e.bs,e.bsz,e.funs,e.frf,e.hok,e.bare⟩
section
variable {X:Cx} {pins:List (Addr × Obj)} {σ:St} {H:Hp} {s s':Shared}
theorem Inv.env0 (I:Inv X pins σ H s):Env0 X.prog X.w X.K X.mg X.base X.A X.stack s H:=
 ⟨I.ok.frames,I.ok.mod,I.bs,Zo_ I.ok.bsz I.sz,I.stack,I.stkFree,I.hok,I.bare⟩
theorem Inv.after {Q:VK} {u:Value} (I:Inv X pins σ H s) (h:CE X.stack X.prog X.w H s Q u s'):EP X pins σ Q u s':=by
 obtain ⟨v,H',os,bare,un,hok,r,q⟩:=h
 obtain ⟨hh,g,d,t,os'⟩:=s'
 obtain rfl:os' = s.os:=os
 exact ⟨v,H',I.call (h':=hh) (g':=g) (d':=d) (t':=t) (ch:=[]) un hok bare (fun b z=>absurd z (by simp)),r,q⟩
end
noncomputable def Agi (sp:Sp) (dvs:List V) (E:XK) (t:TA):TE:=fun σ H Q=>t σ H fun vs H1=>sp (vs++dvs) H1 Q E
noncomputable def Agm (C:Addr) (m:Str) (sp:Sp) (dvs:List V) (E:XK) (ta:TE) (t:TA):TE:=fun σ H Q=>ta σ H fun x H1=>∃a dx fs,x = .ref a/\H1 a=some (.ins C dx fs)/\fs.lookup m=none/\
 t σ H1 fun vs H2=>sp (x :: (vs++dvs)) H2 Q E
noncomputable def Agl (C:Addr) (sp:Sp) (dvs:List V) (E:XK) (t:TA):TE:=fun σ H Q=>t σ H fun vs H1=>∀x dx,H1 x=none->H1 dx=none->dx≠x->
 sp (.ref x :: (vs++dvs)) (upd (upd H1 dx (.own x)) x (.ins C dx [])) (fun v H2=>v = .non/\Q (.ref x) H2) E
noncomputable def Binds (K:Θf) (fd:FuncData) (ps:List Str) (ds:List Value):Prop:=
 ∀(s:Shared) (us:List Value),K.In s.heap->(us++ds).length=ps.length->BindsTo s fd ⟨us,[]⟩ (ps.zip (us++ds))
theorem Binds.all {K:Θf} {fd:FuncData} {ps:List Str} (h:∀us:List Value,us.length=ps.length->bindArgs fd ⟨us,[]⟩=pure (ps.zip us)):Binds K fd ps []:=fun s us _ hl=>by
 rw [List.append_nil] at hl ⊢
 exact .of_eq (h us hl)
noncomputable def Aa (CX:CXT) (X:Cx) (E:XK):Prop:=∀(pins:List (Addr × Obj)) (σ:St) (H:Hp) (s:Shared) (e:Value) (s':Shared),Inv X pins σ H s->CX X.stack H s E e s'->X.xe e s'
section
variable {X:Cx} {CX:CXT} {k:Nat} {f C:Addr} {fd:FuncData} {ps:List Str} {sp:Sp} {dvs:List V} {ds:List Value} {E:XK} {x m:Str} {p pos apos:Pos} {e o:Expr} {es:List Expr} {ta:TE} {t:TA}
theorem Yu {pins:List (Addr × Obj)} {σ:St} {H:Hp} {s:Shared} {Q:VK} {us:List Value} {vs:List V} (F:FnOk X.prog X.w X.K X.mg X.base CX k f fd ps sp) (hr:Room k X.A) (hb:Binds X.K fd ps ds) (hd:Vals dvs ds) (hx:Aa CX X E)
  (I:Inv X pins σ H s) (r:Vals vs us) (h:sp (vs++dvs) H Q E):wpAny (model X.prog X.w) X.A (call (.ref f) us) (EP X pins σ Q) X.xe s:=by
 have r2:Vals (vs++dvs) (us++ds):=r.append hd
 have hl:(us++ds).length=ps.length:=by rw [<-r2.length]; exact F.len _ _ _ _ h
 refine wpAny_call (codeAny_mono (F.run X.A X.stack s H ⟨us,[]⟩ (us++ds) (vs++dvs) Q E hr I.env0 (hb s us I.kIn hl) r2 h) fun r s' hq=>?_)
 cases r with
 | error e=>exact hx pins σ H s e s' I hq
 | ok fl=>
  cases fl with
  | ret u=>exact I.after hq
  | next=>exact False.elim hq
  | brk=>exact False.elim hq
  | cont=>exact False.elim hq
theorem A8 (F:FnOk X.prog X.w X.K X.mg X.base CX k f fd ps sp) (hr:Room k X.A) (hg:Gl X x) (hm:X.mg x=some (.ref f)) (hk:PySem.W.keepIn X.K (.ref f)=true) (hb:Binds X.K fd ps ds) (hd:Vals dvs ds) (hx:Aa CX X E)
  (ha:PA X (e :: es) t) (hdb:(x == ("__debug__":Str))=false:=by decide) (he:starEach (e :: es) X.env=(false,eval e X.env) :: starEach es X.env:=by rfl) (hpl:(backTo pos (starEach es X.env)).any (·.1)=false:=by rfl) :
  PE X (.Call (.Name x p) (e :: es) [] pos) (Agi sp dvs E t):=by
 intro pins s σ H Q I h
 refine wpAny_Call_Name_kw (Eo I hg hm ?_ hdb)
 refine PySem.W.callWith_K (h₀:=X.base) I.ok.mod.kin hk (thn (ha pos pins s σ H _ I h) fun us s1 ⟨vs,H1,I1,r,q⟩=>⟨I1.kIn,?_⟩) he hpl
 exact Yu F hr hb hd hx I1 r q
theorem Y6 {pl:Sem Bool} (he:PE X o ta) (c:Cls X.K C) (hm:Meth X.K C m f) (F:FnOk X.prog X.w X.K X.mg X.base CX k f fd ps sp) (hr:Room k X.A) (hb:Binds X.K fd ps ds) (hd:Vals dvs ds) (hx:Aa CX X E) (ha:PA X (e :: es) t)
  (hst:starEach (e :: es) X.env=(false,eval e X.env) :: starEach es X.env:=by rfl) (hpl:(backTo pos (starEach es X.env)).any (·.1)=false:=by rfl)
  (ht:eval (.Call (.Attribute o m apos) (e :: es) [] pos) X.env=(do
   let ov <-eval o X.env
   standAt apos.atName
   let (f,first) <-holding [ov] (getMethod ov m pl)
   callWith pos f first (backTo pos (starEach (e :: es) X.env)) (backToKw pos (keywordEach [] X.env))):=by rfl) :
  PE X (.Call (.Attribute o m apos) (e :: es) [] pos) (Agm C m sp dvs E ta t):=by
 intro pins s σ H Q I h
 refine PySem.W.methodCall_KW (pl:=pl) (thn (he pins s σ H _ I h) fun u s1 ⟨x,H1,I1,rx,a,dx,fs,ex,ea,l,q⟩=>?_) ht
 subst ex
 obtain rfl:u=Value.ref a:=rx
 refine Ah I1 ea c hm l ?_
 refine PySem.W.callWith_K (first:=[.ref a]) (h₀:=X.base) I.ok.mod.kin hm.kp (thn (ha pos pins s1 σ H1 _ I1 q) fun us s2 ⟨vs,H2,I2,r,q2⟩=>⟨I2.kIn,?_⟩) hst hpl
 exact Yu (us:=.ref a :: us) (vs:=.ref a :: vs) F hr hb hd hx I2 (.cons rfl r) q2
structure Mk (K:Θf) (C f:Addr):Prop where
 makes:PySem.W.makesIn K C=true
 init:PySem.W.findIn K (.ref C) "__init__" = some (some (.ref f))
 fn:PySem.W.isFn K (.ref f)=true
 kp:Θk K C
theorem Yw {pins:List (Addr × Obj)} {σ:St} {H:Hp} {s:Shared} {Q:VK} {us:List Value} {vs:List V} (M:Mk X.K C f) (F:FnOk X.prog X.w X.K X.mg X.base CX k f fd ps sp) (hr:Room (k + 1) X.A) (hb:Binds X.K fd ps ds) (hd:Vals dvs ds)
  (hx:Aa CX X E) (I:Inv X pins σ H s) (r:Vals vs us)
  (h:∀x dx,H x=none->H dx=none->dx≠x->sp (.ref x :: (vs++dvs)) (upd (upd H dx (.own x)) x (.ins C dx [])) (fun v H2=>v = .non/\Q (.ref x) H2) E) :
  wpAny (model X.prog X.w) X.A (call (.ref C) us) (EP X pins σ Q) X.xe s:=by
 have hq:=h (s.heap.objs.size + 1) s.heap.objs.size (I.hok.fresh (Nat.le_succ _)) (I.hok.fresh (Zd_ _)) (Zs_ (Nat.lt_succ_self _))
 have I2:=Inv.made (C:=C) I
 have r2:Vals (V.ref (s.heap.objs.size + 1) :: (vs++dvs)) (Value.ref (s.heap.objs.size + 1) :: (us++ds)):=.cons rfl (r.append hd)
 have hl:(Value.ref (s.heap.objs.size + 1) :: us++ds).length=ps.length:=by
  have e:=r2.length
  rw [F.len _ _ _ _ hq] at e
  exact e.symm
 refine wpAny_call (Xe (f:=f) I.kIn M.makes M.init (beq_iff_eq.mp M.fn) (codeAny_mono (F.run _ X.stack _ _ ⟨Value.ref (s.heap.objs.size + 1) :: us,[]⟩ (Value.ref (s.heap.objs.size + 1) :: (us++ds)) _ _ E (hr.make C us [])
  (I2.env0.make C us []) (hb _ (Value.ref (s.heap.objs.size + 1) :: us) I2.kIn hl) r2 hq) fun r s' hq'=>?_))
 cases r with
 | error e=>exact hx pins σ _ _ e s' I2 hq'
 | ok fl=>
  cases fl with
  | ret u=>
   obtain ⟨v,H',I3,rv,ev,q3⟩:=I2.after hq'
   subst ev
   exact ⟨rv,⟨V.ref (s.heap.objs.size + 1),H',I3,rfl,q3⟩⟩
  | next=>exact False.elim hq'
  | brk=>exact False.elim hq'
  | cont=>exact False.elim hq'
theorem Re (M:Mk X.K C f) (F:FnOk X.prog X.w X.K X.mg X.base CX k f fd ps sp) (hr:Room (k + 1) X.A) (hg:Gl X x) (hm:X.mg x=some (.ref C)) (hb:Binds X.K fd ps ds) (hd:Vals dvs ds) (hx:Aa CX X E)
  (ha:PA X (e :: es) t) (hdb:(x == ("__debug__":Str))=false:=by decide) (he:starEach (e :: es) X.env=(false,eval e X.env) :: starEach es X.env:=by rfl) (hpl:(backTo pos (starEach es X.env)).any (·.1)=false:=by rfl) :
  PE X (.Call (.Name x p) (e :: es) [] pos) (Agl C sp dvs E t):=by
 intro pins s σ H Q I h
 refine wpAny_Call_Name_kw (Eo I hg hm ?_ hdb)
 refine PySem.W.callWith_K (h₀:=X.base) I.ok.mod.kin M.kp (thn (ha pos pins s σ H _ I h) fun us s1 ⟨vs,H1,I1,r,q⟩=>⟨I1.kIn,?_⟩) he hpl
 exact Yw M F hr hb hd hx I1 r q
end
section
variable {X:Cx} {CX:CXT} {k:Nat} {f C:Addr} {fd:FuncData} {ps ks:List Str} {sp:Sp} {E:XK} {x m:Str} {p pos apos kpos:Pos} {e o:Expr} {es:List Expr} {kws:List Keyword} {te ta:TE} {t tk:TA} {nm:Option Str}
variable {g:List Value->List Value->List Value} {gV:List V->List V->List V}
end
structure FnScope (N P:List Str) (sc:Scope):Prop where
 kind:sc.kind = .function
 co:sc.isCoroutine=false
 gen:sc.isGenerator=false
 nd:N.Nodup
 pre:N.take P.length=P
 par:∀x∈P,sc.names.lookup x=some .local\/sc.names.lookup x=some .cell
 nofree:∀y∈sc.names,y.2≠.free
theorem Hm {kindOf:Str->Option NameKind} {x:Str}:∀{binds:List (Str × Value)} {m:Str->Option Value},(∀v,(x,v)∉binds)->bindL kindOf binds m x=m x
 | [],_,_=>rfl
 | (n,v) :: r,m,h=>by
  unfold bindL
  rw [Hm fun w hw=>h w (Θd _ hw)]
  split
  ·have:x≠n:=by rintro rfl; exact h v Θc
   simp [this]
  ·rfl
theorem Hk {kindOf:Str->Option NameKind} {x:Str}:∀{binds:List (Str × Value)} {m:Str->Option Value},(∀v,(x,v)∉binds)->bindC kindOf binds m x=m x
 | [],_,_=>rfl
 | (n,v) :: r,m,h=>by
  unfold bindC
  rw [Hk fun w hw=>h w (Θd _ hw)]
  split
  ·rfl
  ·have:x≠n:=by rintro rfl; exact h v Θc
   simp [this]
theorem Hl {kindOf:Str->Option NameKind} {x:Str} {v:Value}:∀{P:List Str} {vs:List Value} {i:Nat} {m:Str->Option Value},P.Nodup->P[i]? = some x->vs[i]? = some v->kindOf x=some .local->
  bindL kindOf (P.zip vs) m x=some v
 | [],_,_,_,_,h,_,_=>by simp at h
 | _ :: _,[],_,_,_,_,h,_=>by simp at h
 | p :: P,w :: vs,0,m,nd,h1,h2,hk=>by
  simp at h1 h2; subst h1; subst h2
  show bindL kindOf ((p,w) :: P.zip vs) m p=_
  unfold bindL
  rw [Hm fun v hv=>(List.nodup_cons.mp nd).1 (List.of_mem_zip hv).1,if_pos hk]
  simp
 | p :: P,w :: vs,i + 1,m,nd,h1,h2,hk=>by
  show bindL kindOf ((p,w) :: P.zip vs) m x=_
  unfold bindL
  exact Hl (i:=i) (List.nodup_cons.mp nd).2 (by simpa using h1) (by simpa using h2) hk
theorem Hj {kindOf:Str->Option NameKind} {x:Str} {v:Value}:∀{P:List Str} {vs:List Value} {i:Nat} {m:Str->Option Value},P.Nodup->P[i]? = some x->vs[i]? = some v->kindOf x≠some .local->
  bindC kindOf (P.zip vs) m x=some v
 | [],_,_,_,_,h,_,_=>by simp at h
 | _ :: _,[],_,_,_,_,h,_=>by simp at h
 | p :: P,w :: vs,0,m,nd,h1,h2,hk=>by
  simp at h1 h2; subst h1; subst h2
  show bindC kindOf ((p,w) :: P.zip vs) m p=_
  unfold bindC
  rw [Hk fun v hv=>(List.nodup_cons.mp nd).1 (List.of_mem_zip hv).1,if_neg hk]
  simp
 | p :: P,w :: vs,i + 1,m,nd,h1,h2,hk=>by
  show bindC kindOf ((p,w) :: P.zip vs) m x=_
  unfold bindC
  exact Hj (i:=i) (List.nodup_cons.mp nd).2 (by simpa using h1) (by simpa using h2) hk
noncomputable def Cf (N:List Str) (vs:List V):St:=vs.map some++List.replicate (N.length - vs.length) none
noncomputable def Fl (CX:CXT) (P:Program) (w:World) (K:Θf) (mg:Str->Option Value) (base:Heap) (N:List Str) (qual:Str) (scope:Scope) (f:Addr) (cd:Value) (A:Around) (outer:List Env) (s:Shared) (H:Hp) (E:XK):Cx where
 prog:=P
 w:=w
 K:=K
 mg:=mg
 base:=base
 A:=A.deeper (envOfC qual scope s.heap.objs.size f cd)
 N:=N
 s₀:=s
 H₀:=H
 env:=envOfC qual scope s.heap.objs.size f cd
 outer:=outer
 stack:=envOfC qual scope s.heap.objs.size f cd :: outer
 ex:=[]
 calm:=true
 fn:=fun _=>true
 pn:=[]
 xe:=fun e s'=>wpAny (model P w) (A.deeper (envOfC qual scope s.heap.objs.size f cd)) (leaving (envOfC qual scope s.heap.objs.size f cd) e) (fun _ s''=>CX outer H s E e s'') (fun e' s''=>CX outer H s E e' s'') s'
theorem Lk {sc:Scope} {n:Nat} {x:Str} (h:sc.names.lookup x=some .cell):∃c,(cellsFrom n sc.names []).lookup x=some c:=by
 have q:=PySem.W.cellsFrom_some sc.names n [] (.inl h)
 exact Option.isSome_iff_exists.mp q
theorem Tf {CX:CXT} {P:Program} {w:World} {K:Θf} {mg:Str->Option Value} {base:Heap} {N ps:List Str} {qual:Str} {scope:Scope} {f:Addr} {cd:Value} {A:Around} {outer:List Env} {s s1:Shared} {H:Hp} {E:XK} {us:List Value} {vs:List V}
  (S:FnScope N ps scope) (hd:A.handled=none) (e0:Env0 P w K mg base A outer s H) (hl:vs.length=ps.length) (r:Vals vs us)
  (x:InCallC s s.heap.objs.size (bindL (envOfC qual scope s.heap.objs.size f cd).kindOf (ps.zip us) fun _=>none) (cellsFrom (s.heap.objs.size + 1) scope.names []) (bindC (envOfC qual scope s.heap.objs.size f cd).kindOf (ps.zip us) fun _=>none) s1) :
  Inv (Fl CX P w K mg base N qual scope f cd A outer s H E) [] (Cf N vs) H s1:=by
 have hpl:ps.length<=N.length:=by have:=congrArg List.length S.pre; rw [ZB] at this; omega
 obtain ⟨h1,tk,rfl,hk⟩:=x.done
 have noA:∀b:Addr,b∉(Fl CX P w K mg base N qual scope f cd A outer s H E).ex:=fun b z=>absurd (show b∈([]:List Addr) from z) (by simp)
 refine ⟨⟨e0.mod,S.kind,rfl,rfl,Zd_ _,fun y z c h1 h2=>?_,fun y hy=>?_,fun y c _ h=>?_,fun _=>hd,Around.frames_deeper e0.frames,.inr ⟨rfl,rfl⟩,fun b z=>absurd z (noA b),e0.bs,e0.bsz,fun b _ _=>noA b,fun b z=>absurd z (noA b),e0.funs,e0.frf⟩,
  rfl,e0.bare,Un.kept hk,⟨_,x.toInCall.ns,fun i y v h1 h2 h3=>?_⟩,fun y c h=>⟨_,x.cell y c h⟩,e0.hok.fresh (Nat.le_refl _),fun y c h=>?_,fun p hp=>absurd (show p∈([]:List (Addr × Obj)) from hp) (by simp),e0.hok.kept hk,?_⟩
 ·exact name_of_addr x.apart (PySem.mem_of_lookup h1) (PySem.mem_of_lookup h2)
 ·have hy:scope.names.lookup y=some .cell\/scope.names.lookup y=some .free:=hy
  rcases hy with hy | hy
  ·exact Lk hy
  ·exact absurd rfl (S.nofree _ (PySem.mem_of_lookup hy))
 ·exact Nat.le_of_lt (x.above y c (PySem.mem_of_lookup h))
 ·have hi:i < vs.length:=by
   unfold Cf at h2
   by_cases hi:i < vs.length
   ·exact hi
   ·rw [List.getElem?_append_right (by simpa using hi)] at h2
    rw [List.getElem?_replicate] at h2
    split at h2 <;> cases h2
  have ha:vs[i]? = some v:=by
   unfold Cf at h2
   rw [List.getElem?_append_left (by simpa using hi),Θg] at h2
   cases e:vs[i]? with
   | none=>rw [e] at h2; cases h2
   | some a=>rw [e] at h2; cases h2; rfl
  obtain ⟨u,hu,rv⟩:=r.get ha
  have hp:ps[i]? = some y:=by
   rw [<-S.pre,List.getElem?_take_of_lt (by omega)]; exact h1
  have ndP:ps.Nodup:=by rw [<-S.pre]; exact S.nd.sublist (List.take_sublist _ _)
  refine ⟨u,rv,?_⟩
  rcases S.par y (Θe hp) with k | k
  ·exact .inl ⟨k,Hl ndP hp hu k⟩
  ·obtain ⟨c,e⟩:=Lk (n:=s.heap.objs.size + 1) k
   refine .inr ⟨.inl k,c,e,?_⟩
   have q:=x.cell y c e
   rw [Hj ndP hp hu (by show scope.names.lookup y≠_; rw [k]; decide)] at q
   exact q
 ·exact e0.hok.fresh (Nat.le_of_lt (x.above y c (PySem.mem_of_lookup h)))
 ·unfold Cf
  show _=N.length
  rw [Zv_,Θl,List.length_replicate]
  omega
theorem Acu {CX:CXT} {P:Program} {w:World} {K:Θf} {mg:Str->Option Value} {base:Heap} {k:Nat} {f:Addr} {name qual:Str} {params:Arguments} {body:List Stmt} {scope:Scope} {dV kV doc pm cdv ct oc:Value} {an od:Option Addr}
  {osl:Array (Option Value)} {N ps:List Str} {sp:Sp} (lk:K.lookup f=some ⟨oc,od,.func (PySem.W.fnOf name qual params body scope dV kV doc pm an cdv ct),osl⟩) (hcd:PySem.W.codeIn K cdv qual=true) (S:FnScope N ps scope)
  (len:∀vs H Q E,sp vs H Q E->vs.length=ps.length)
  (hbody:∀(A:Around) (outer:List Env) (s:Shared) (H:Hp) (vs:List V) (Q:VK) (E:XK),Room k (A.deeper (envOfC qual scope s.heap.objs.size f cdv))->sp vs H Q E->
   ∃t,PSs (Fl CX P w K mg base N qual scope f cdv A outer s H E) body t/\t { nx:=fun _ H'=>Q .non H',rt:=Q } (Cf N vs) H) :
  FnOk P w K mg base CX (k + 1) f (PySem.W.fnOf name qual params body scope dV kV doc pm an cdv ct) ps sp:=by
 refine ⟨len,fun A outer s H args us vs Q E hr e0 hb r hsp=>?_⟩
 have hl:=len _ _ _ _ hsp
 have KX:K.In s.heap:=e0.mod.kin.keeps fun b o e=>(e0.bs b o e).1
 have lim:s.heap.NoLimit:=e0.mod.nolimit.keeps fun b o e=>(e0.bs b o e).1
 have hkind:∀y∈ps.zip us,scope.names.lookup y.1=some .local\/(scope.names.lookup y.1=some .cell/\((cellsFrom (s.heap.objs.size + 1) scope.names []).lookup y.1).isSome=true):=fun ⟨n,v⟩ hy=>by
  rcases S.par n (List.of_mem_zip hy).1 with q | q
  ·exact .inl q
  ·exact .inr ⟨q,PySem.W.cellsFrom_some _ _ _ (.inl q)⟩
 refine codeAny_call_function hr.depth (KX _ _ lk) rfl S.co S.gen rfl (PySem.W.codeRec_of KX hcd) (hb _ _ _ _ ?_)
 refine wpAny_newFunctionEnv_cells S.kind hkind fun env he s1 x=>?_
 subst he
 refine ⟨lim.keeps x.toInCall.keep,codeAny_func ?_⟩
 obtain ⟨t,ht,hq⟩:=hbody A outer s H vs Q E (hr.deeper _) hsp
 have I:Inv (Fl CX P w K mg base N qual scope f cdv A outer s H E) [] (Cf N vs) H s1:=Tf S hr.hd e0 hl r x
 refine wpAny_mono (ht [] s1 (Cf N vs) H _ I hq) (fun fl s' hs=>?_) fun e s' hs=>hs
 have fin:∀{σ':St} {H':Hp} {v:V} {u:Value},Inv (Fl CX P w K mg base N qual scope f cdv A outer s H E) [] σ' H' s'->RelV v u->Q v H'->CE outer P w H s Q u s':=
  fun {σ' H' v u} J rv q=>⟨v,H',J.os,J.bare,J.base,J.hok,rv,q⟩
 cases fl with
 | ret u=>
  obtain ⟨v,σ',H',J,rv,q⟩:=hs
  exact fin J rv q
 | next=>
  obtain ⟨σ',H',J,q⟩:=hs
  exact fin (v:=V.non) (u:=Value.none) J rfl q
 | brk=>
  obtain ⟨_,_,_,q⟩:=hs
  exact False.elim q
 | cont=>
  obtain ⟨_,_,_,q⟩:=hs
  exact False.elim q
section
variable {X:Cx} {x:Str} {p pos:Pos} {e:Expr} {es:List Expr} {t:TA} {id T:String} {r:List V->Hp->VK->Prop}
noncomputable def tCB (r:List V->Hp->VK->Prop) (t:TA):TE:=fun σ H Q=>t σ H fun vs H1=>r vs H1 Q
theorem D2 (hc:Q6 X (.builtin id) r) (hg:Gl X x) (hm:X.mg x=none) (hv:bootBuiltins x=some (.builtin id)) (ha:PA X (e :: es) t) (hn:x≠"__name__":=by decide) (hdb:(x == ("__debug__":Str))=false:=by decide)
  (he:starEach (e :: es) X.env=(false,eval e X.env) :: starEach es X.env:=by rfl) (hpl:(backTo pos (starEach es X.env)).any (·.1)=false:=by rfl):PE X (.Call (.Name x p) (e :: es) [] pos) (tCB r t):=by
 intro pins s σ H Q I h
 refine wpAny_Call_Name_kw (Al I hg hm hv ?_ hn hdb)
 exact PyProof.Rows.callWith_builtin1 (thn (ha pos pins s σ H _ I h) fun us s1 ⟨vs,H1,I1,r1,q1⟩=>hc pins s1 σ H1 vs us Q I1 r1 q1) he hpl
theorem O8 (hc:Q6 X (.type T) r) (hg:Gl X x) (hm:X.mg x=none) (hv:bootBuiltins x=some (.type T)) (ha:PA X (e :: es) t) (hn:x≠"__name__":=by decide) (hdb:(x == ("__debug__":Str))=false:=by decide)
  (he:starEach (e :: es) X.env=(false,eval e X.env) :: starEach es X.env:=by rfl) (hpl:(backTo pos (starEach es X.env)).any (·.1)=false:=by rfl):PE X (.Call (.Name x p) (e :: es) [] pos) (tCB r t):=by
 intro pins s σ H Q I h
 refine wpAny_Call_Name_kw (Al I hg hm hv ?_ hn hdb)
 exact PyProof.Rows.callWith_type1 (thn (ha pos pins s σ H _ I h) fun us s1 ⟨vs,H1,I1,r1,q1⟩=>hc pins s1 σ H1 vs us Q I1 r1 q1) he hpl
end
end L2
namespace HT
open PySem PyProof.Rows
section
open PySem.SeqAt
open PySem.AutoSeq1 (wpAny_loadPart')
open PySem.MeetsSeq PySem.MeetsSeq2 PySem.MeetsSeq3
end
section
variable {prog:Program} {w:World} {A:Around} {E:Value->Shared->Prop} {s:Shared}
noncomputable def sIx (n d:Nat):Option Int->Nat
 | none=>d
 | some v=>if v < 0 then (v + (n:Int)).toNat else min v.toNat n
theorem sIx_none (n d:Nat):sIx n d none=d:=rfl
theorem sIx_nat (n d k:Nat):sIx n d (some (k:Int))=min k n:=by
 show (if (k:Int) < 0 then ((k:Int) + (n:Int)).toNat else min (k:Int).toNat n)=min k n
 rw [if_neg (by omega),Int.toNat_natCast]
end
end HT
namespace L2
open PySem PySem.Spec PyProof.Rows
noncomputable abbrev TO:=St->Hp->(Option Int->Hp->Prop)->Prop
noncomputable def PO (X:Cx) (e:Option Expr) (t:TO):Prop:=
 ∀(pins:List (Addr × Obj)) (s:Shared) (σ:St) (H:Hp) (Q:Option Int->Hp->Prop),Inv X pins σ H s->t σ H Q->
  wpAny (model X.prog X.w) X.A (evalPart e X.env) (fun u s'=>∃o H',Inv X pins σ H' s'/\IsPart u o/\Q o H') X.xe s
noncomputable def Acj:TO:=fun _ H Q=>Q none H
noncomputable def Ago (t:TE):TO:=fun σ H Q=>t σ H fun x H1=>∃i,x = .int i/\Q (some i) H1
theorem Ai {ns:List Int}:∀{us:List Value},Vals (ns.map V.int) us->IntsAre us ns:=by
 induction ns with
 | nil=>intro us r; rw [List.map_nil] at r; cases r; exact .nil
 | cons n ns ih=>
  intro us r
  rw [List.map_cons] at r
  cases r with
  | cons r1 r2=>
   obtain ⟨t,e⟩:=r1
   subst e
   exact .cons n t (ih r2)
section
variable {X:Cx} {e:Expr} {te:TE} {lo hi:Option Expr} {tl th:TO} {pos p2:Pos}
theorem M4:PO X none Acj:=by
 intro pins s σ H Q I h
 rw [evalPart_none]
 exact Zb_ ⟨none,H,I,.none,h⟩
theorem K9 (h:PE X e te):PO X (some e) (Ago te):=by
 intro pins s σ H Q I hw
 rw [evalPart_some]
 refine thn (h pins s σ H _ I hw) fun u s1 ⟨x,H1,I1,r1,q1⟩=>?_
 obtain ⟨i,rfl,q⟩:=q1
 obtain ⟨t,rfl⟩:=r1
 exact ⟨some i,H1,I1,.int i t,q⟩
noncomputable def SlR (X:Cx) (r:V->Option Int->Option Int->Hp->VK->Prop):Prop:=
 ∀(pins:List (Addr × Obj)) (s:Shared) (σ:St) (H:Hp) (x:V) (v vl vu:Value) (lo hi:Option Int) (sl:Addr) (Q:VK),Inv X pins σ H s->RelV x v->s.heap.IsSliceOf sl vl vu .none->IsPart vl lo->IsPart vu hi->r x lo hi H Q->
  ∃T id,typeLookup (.type T) "__getitem__" = pure (some (.builtin id))/\s.TypeIs v T/\wpAny (model X.prog X.w) X.A (getItem v (.ref sl)) (EP X pins σ Q) X.xe s
noncomputable def tSl (r:V->Option Int->Option Int->Hp->VK->Prop) (te:TE) (tl th:TO):TE:=fun σ H Q=>te σ H fun x H1=>tl σ H1 fun l H2=>th σ H2 fun u H3=>r x l u H3 Q
theorem J3 {r:V->Option Int->Option Int->Hp->VK->Prop} (hr:SlR X r) (he:PE X e te) (hl:PO X lo tl) (hu:PO X hi th):PE X (.Subscript e (.Slice lo hi none p2) pos) (tSl r te tl th):=by
 intro pins s σ H Q I h
 refine Subscript_ (thn (he pins s σ H _ I h) fun v s1 ⟨x,H1,I1,r1,q1⟩=>?_)
 refine wpAny_Slice (thn (hl pins s1 σ H1 _ I1 q1) fun vl s2 ⟨l,H2,I2,pl,q2⟩=>thn (hu pins s2 σ H2 _ I2 q2) fun vu s3 ⟨u,H3,I3,pu,q3⟩=>?_)
 rw [evalPart_none]
 refine Zb_ ?_
 have I4:Inv X pins σ H3 { s3 with heap:=s3.heap.push { cls:=.type "slice",data:=.fields #[vl,vu,.none] } }:=I3.kept (t':=s3.toks) fun b ob q=>Zc_ _ q
 obtain ⟨T,id,hT,ht,hg⟩:=hr pins { s3 with heap:=s3.heap.push { cls:=.type "slice",data:=.fields #[vl,vu,.none] } } σ H3 x v vl vu l u s3.heap.objs.size Q I4 r1 (Heap.IsSliceOf.new ..) pl pu q3
 show wpAny (model X.prog X.w) X.A (subscriptTail e (.Slice lo hi none p2) v (.ref s3.heap.objs.size)) (EP X pins σ Q) X.xe { s3 with heap:=s3.heap.push { cls:=.type "slice",data:=.fields #[vl,vu,.none] } }
 exact tail_any (ops:=[.ref s3.heap.objs.size,v]) ht hT hg (by with_unfolding_all rfl)
noncomputable def W3 (xs:List V) (lo hi:Option Int):List V:=(xs.drop (HT.sIx xs.length 0 lo)).take (HT.sIx xs.length xs.length hi - HT.sIx xs.length 0 lo)
theorem Lm (xs:List V) (lo hi:Option Int):(W3 xs lo hi).length<=xs.length:=by
 unfold W3
 rw [ZB,List.length_drop]
 omega
end
noncomputable def ixN (n:Nat) (i:Int):Option Nat:=if 0<=i then (if i < n then some i.toNat else none) else if -(n:Int)<=i then some (i + n).toNat else none
noncomputable def atI {α:Type} (xs:List α) (i:Int):Option α:=(ixN xs.length i).bind fun j=>xs[j]?
theorem Qt {n:Nat} {i:Int} {j:Nat} (h:ixN n i=some j):seqIndex? i n=some j/\j < n/\-(n:Int)<=i/\i < n:=by
 unfold ixN at h
 by_cases h0:0<=i
 ·rw [if_pos h0] at h
  by_cases h1:i < n
  ·rw [if_pos h1] at h
   have e:i.toNat=j:=Θo h
   exact ⟨by rw [seqIndex_of h0 h1,e],by omega,by omega,h1⟩
  ·rw [if_neg h1] at h; cases h
 ·rw [if_neg h0] at h
  by_cases h1:-(n:Int)<=i
  ·rw [if_pos h1] at h
   have e:(i + n).toNat=j:=Θo h
   exact ⟨by rw [seqIndex_neg (by omega) h1,e],by omega,h1,by omega⟩
  ·rw [if_neg h1] at h; cases h
theorem Je {α:Type} {xs:List α} {i:Int} {v:α} (h:atI xs i=some v):∃j,seqIndex? i xs.length=some j/\xs[j]? = some v/\j < xs.length/\-(xs.length:Int)<=i/\i < xs.length:=by
 unfold atI at h
 cases e:ixN xs.length i with
 | none=>rw [e] at h; cases h
 | some j=>
  rw [e] at h
  obtain ⟨h1,h2,h3,h4⟩:=Qt e
  exact ⟨j,h1,h,h2,h3,h4⟩
theorem A6 {α:Type} {xs:List α} {j:Nat} {v:α} (h:xs[j]? = some v):atI xs (j:Int)=some v:=by
 have hj:j < xs.length:=(Ze_.mp h).1
 have e:ixN xs.length (j:Int)=some j:=by
  unfold ixN
  rw [if_pos (by omega),if_pos (by omega)]; simp
 unfold atI; rw [e]; exact h
noncomputable def Aaq (b:Expr):Prop:=∀o i,subscripted b false o i=operate [o,i] (getItem o i)
noncomputable def IxR (X:Cx) (r:R2):Prop:=
 ∀(value slice:Expr) (pins:List (Addr × Obj)) (s:Shared) (σ:St) (H:Hp) (x y:V) (v u:Value) (Q:VK),Inv X pins σ H s->RelV x v->RelV y u->r x y H Q->
  subscripted slice false v u=operate [v,u] (getItem v u)->wpAny (model X.prog X.w) X.A (subscriptTail value slice v u) (EP X pins σ Q) X.xe s
noncomputable def MtR (X:Cx) (id:String) (r:V->List V->Hp->VK->Prop):Prop:=
 ∀(pins:List (Addr × Obj)) (s:Shared) (σ:St) (H:Hp) (x:V) (xs:List V) (v:Value) (us:List Value) (Q:VK),Inv X pins σ H s->RelV x v->Vals xs us->r x xs H Q->
  wpAny (model X.prog X.w) X.A (call (.builtin id) (v :: us)) (EP X pins σ Q) X.xe s
section
variable {X:Cx} {a b:Expr} {ta tb:TE} {pos:Pos}
theorem C4 {r:R2} (hr:IxR X r) (ha:PE X a ta) (hb:PE X b tb) (hs:Aaq b):PE X (.Subscript a b pos) (tOp r ta tb):=by
 intro pins s σ H Q I h
 exact Subscript_ (Ada ha hb I h fun v u s2 x y H2 I2 rx ry q=>hr a b pins s2 σ H2 x y v u Q I2 rx ry q (hs _ _))
noncomputable def Af9 (K:Θf):R2:=fun x y H Q=>∃p xs i v,x = .ref p/\y = .int i/\SqL K H p xs/\atI xs i=some v/\Q v H
noncomputable def Aga (K:Θf):R2:=fun x y H Q=>∃p xs i v,x = .ref p/\y = .int i/\SqT K H p xs/\atI xs i=some v/\Q v H
noncomputable def Ag8:R2:=fun x y H Q=>∃z i c,x = .str z/\y = .int i/\z.length<=sizeLine/\atI z.cps.toList i=some c/\Q (.str ⟨#[c]⟩) H
theorem Aa8:IxR X (Af9 X.K):=by
 intro value slice pins s σ H x y v u Q I rx ry h hs
 obtain ⟨p,xs,i,z,rfl,rfl,hq,he,q⟩:=h
 cases rx
 obtain ⟨t,rfl⟩:=ry
 obtain ⟨its,r,pl,hz⟩:=I.list hq
 obtain ⟨j,h1,h2,h3,h4,h5⟩:=Je he
 obtain ⟨w,ew,rw'⟩:=r.get h2
 have hl:=r.length
 have hn:=Cv
 have fin:EP X pins σ Q w s:=⟨z,H,I,rw',q⟩
 by_cases h0:0<=i
 ·have hj:i.toNat=j:=by
   rw [seqIndex_of h0 h5] at h1
   exact Θo h1
  exact item_listR pl.isList h0 (by omega) (by rw [hj]; simpa using ew) fin hs
 ·have hj:(i + (its.toArray.size:Int)).toNat=j:=by
   rw [seqIndex_neg (by omega) h4] at h1
   rw [Zx_,<-hl]
   exact Θo h1
  exact subscriptTail_builtinR (x:=w) pl.isList.typeIs slot_list_getitem.lookup
   (wpAny_getItem_list_neg (Q:=fun r s'=>r=w/\EP X pins σ Q r s') pl.isList (by omega) (by rw [List.size_toArray] <;> omega) (by omega) (by rw [hj]; simpa using ew) ⟨rfl,fin⟩) hs
theorem Adp:IxR X (Aga X.K):=by
 intro value slice pins s σ H x y v u Q I rx ry h hs
 obtain ⟨p,xs,i,z,rfl,rfl,hq,he,q⟩:=h
 cases rx
 obtain ⟨t,rfl⟩:=ry
 obtain ⟨its,r,pl,hz⟩:=I.tuple hq
 obtain ⟨j,h1,h2,h3,h4,h5⟩:=Je he
 obtain ⟨w,ew,rw'⟩:=r.get h2
 have hl:=r.length
 have hn:=Cv
 have fin:EP X pins σ Q w s:=⟨z,H,I,rw',q⟩
 exact subscriptTail_builtinR (x:=w) pl.typeIs slot_tuple_getitem.lookup
  (getItem_tuple (j:=j) (Q:=fun r s'=>r=w/\EP X pins σ Q r s') pl (by omega) (by omega) (by rw [List.size_toArray,<-hl]; exact h1) (by simpa using ew) ⟨rfl,fin⟩) hs
theorem Oc:IxR X Ag8:=by
 intro value slice pins s σ H x y v u Q I rx ry h hs
 obtain ⟨z,i,c,rfl,rfl,hz,he,q⟩:=h
 obtain ⟨t,rfl⟩:=rx
 obtain ⟨t',rfl⟩:=ry
 obtain ⟨j,h1,h2,h3,h4,h5⟩:=Je he
 have hl:z.cps.toList.length=z.length:=by simp [Str.length]
 rw [hl] at h1 h4 h5
 have hn:=Cv
 exact tail_any (typeIs_str s z t) slot_str_getitem.lookup (getItem_str (c:=c) (by
  have e1:decide (i < -(2 ^ 63:Int))=false:=decide_eq_false (by omega)
  have e2:decide (i ≥ 2 ^ 63)=false:=decide_eq_false (by omega)
  rw [e1,e2,Bool.or_false]) (by rw [h1]; simpa using h2) ⟨.str ⟨#[c]⟩,H,I.tok _,⟨_,rfl⟩,q⟩) hs
theorem Ol (its:List Value) (n j:Nat) (u:Value):Obj.mapSeq (·.setIfInBounds j u) { cls:=.type "list",data:=.seq its.toArray n }={ cls:=.type "list",data:=.seq (its.set j u).toArray n }:=by
 simp [Obj.mapSeq]
theorem Inv.lst {pins:List (Addr × Obj)} {σ:St} {H:Hp} {s:Shared} {p:Addr} {xs:List V} (I:Inv X pins σ H s) (h:H p=some (.lst xs)) :
  ∃(its:List Value) (n:Nat),Vals xs its/\s.heap.get? p=some { cls:=.type "list",data:=.seq its.toArray n }/\xs.length<=sizeLine:=by
 obtain ⟨z,its,n,r,e⟩:=I.hok p _ h
 exact ⟨its,n,r,e,z⟩
theorem Inv.lstUpd {pins:List (Addr × Obj)} {σ:St} {H:Hp} {s:Shared} {p:Addr} {xs ys:List V} {its its':List Value} {n n':Nat} {f:Obj->Obj} (I:Inv X pins σ H s) (h:H p=some (.lst xs))
  (ho:s.heap.get? p=some { cls:=.type "list",data:=.seq its.toArray n }) (hf:f { cls:=.type "list",data:=.seq its.toArray n }={ cls:=.type "list",data:=.seq its'.toArray n' }) (r:Vals ys its') (hz:ys.length<=sizeLine) (t:Nat) :
  Inv X pins σ (upd H p (.lst ys)) { s with heap:=s.heap.update p f,toks:=t }:=by
 have e:(s.heap.update p f).get? p=some { cls:=.type "list",data:=.seq its'.toArray n' }:=by
  rw [Heap.get?_update_self f ho (by rw [hf] <;> rfl),hf]
 refine I.write (x:=p) (e:=p) (by rw [h]; trivial) (.inl rfl) (fun b u hb q=>(Heap.get?_update_other _ _ (Ne.symm hb)).trans q) ⟨_,e⟩ ?_
 exact ⟨hz,its',n',r,e⟩
noncomputable def Agb:V->V->V->Hp->(Hp->Prop)->Prop:=fun o i v H Q=>∃p xs k j,o = .ref p/\i = .int k/\H p=some (.lst xs)/\ixN xs.length k=some j/\Q (upd H p (.lst (xs.set j v)))
theorem Mx:Afj X Agb:=by
 intro pins s σ H o i v ov iv u Q I ro ri rv h
 obtain ⟨p,xs,k,j,rfl,rfl,hp,hj,q⟩:=h
 cases ro
 obtain ⟨t,rfl⟩:=ri
 obtain ⟨its,n,r,ho,hz⟩:=I.lst hp
 obtain ⟨h1,h2,h3,h4⟩:=Qt hj
 have hl:=r.length
 have hn:=Cv
 have I':Inv X pins σ (upd H p (.lst (xs.set j v))) { s with heap:=s.heap.update p (Obj.mapSeq (·.setIfInBounds j u)) }:=
  I.lstUpd hp ho (Ol its n j u) (r.set rv j) (by rw [List.length_set]; exact hz) s.toks
 by_cases h0:0<=k
 ·have hk:k.toNat=j:=by
   rw [seqIndex_of h0 h4] at h1
   exact Θo h1
  exact PySem.W.ki_setAt ho h0 (by omega) (by rw [Zx_,<-hl]; exact h4) (by rw [hk]; exact ⟨_,I',q⟩)
 ·have hk:(k + (its.toArray.size:Int)).toNat=j:=by
   rw [seqIndex_neg (by omega) h3] at h1
   rw [Zx_,<-hl]
   exact Θo h1
  exact PySem.W.ki_setBack ho (by omega) (by rw [Zx_,<-hl]; exact h3) (by omega) (by rw [hk]; exact ⟨_,I',q⟩)
theorem Ku (lo hi:Option Int) (n:Nat):(sliceBounds lo hi none n).1=((HT.sIx n 0 lo:Nat):Int)/\(sliceBounds lo hi none n).2.1=((HT.sIx n n hi:Nat):Int)/\(sliceBounds lo hi none n).2.2=1:=by
 refine ⟨?_,?_,rfl⟩
 ·cases lo with
  | none=>simp [sliceBounds,HT.sIx]
  | some i=>
   simp only [sliceBounds,HT.sIx,Option.getD_none,show (1:Int) > 0 by decide,if_true]
   by_cases h:i < 0
   ·simp only [h,if_true] <;> omega
   ·simp only [h,if_false] <;> omega
 ·cases hi with
  | none=>simp [sliceBounds,HT.sIx]
  | some i=>
   simp only [sliceBounds,HT.sIx,Option.getD_none,show (1:Int) > 0 by decide,if_true]
   by_cases h:i < 0
   ·simp only [h,if_true] <;> omega
   ·simp only [h,if_false] <;> omega
theorem Hg (its:List Value) (lo hi:Option Int):slicePick its.toArray lo hi none=((its.drop (HT.sIx its.length 0 lo)).take (HT.sIx its.length its.length hi - HT.sIx its.length 0 lo)).toArray:=by
 obtain ⟨h1,h2,h3⟩:=Ku lo hi its.toArray.size
 unfold slicePick
 rw [h1,h2,h3]
 simp only [sliceRange_one,pick_run,List.size_toArray] <;> rfl
noncomputable def Ag9 (K:Θf):V->Option Int->Option Int->Hp->VK->Prop:=fun x lo hi H Q=>∃a xs,x = .ref a/\SqL K H a xs/\∀p,H p=none->Q (.ref p) (upd H p (.lst (W3 xs lo hi)))
theorem M5:SlR X (Ag9 X.K):=by
 intro pins s σ H x v vl vu lo hi sl Q I rx hs pl pu h
 obtain ⟨a,xs,rfl,hx,q⟩:=h
 cases rx
 obtain ⟨its,r,ht,hz⟩:=I.list hx
 have hlen:=r.length
 refine ⟨"list",_,slot_list_getitem.lookup,ht.isList.typeIs,?_⟩
 refine wpAny_getItem_list_slice ht.isList hs pl pu .none (by simp) ?_ (by rw [List.size_toArray] <;> omega)
 rw [Hg,<-hlen]
 refine ⟨.ref s.heap.objs.size,_,I.laid (t':=s.toks) (o:=.lst (W3 xs lo hi)) (fun b ob q=>Zc_ _ q) (Zd_ _) ?_,rfl,q _ (I.hok.fresh (Zd_ _))⟩
 exact ⟨Zo_ (Lm xs lo hi) hz,_,0,(r.drop (HT.sIx xs.length 0 lo)).take (HT.sIx xs.length xs.length hi - HT.sIx xs.length 0 lo),Zm_ _ rfl⟩
noncomputable def Bd:V->Bool
 | .non=>true
 | .bl _=>true
 | .int _=>true
 | .str _=>true
 | _=>false
noncomputable def eqV:V->V->Bool
 | .non,.non=>true
 | .bl a,.bl b=>a == b
 | .bl a,.int b=>(if a then 1 else 0) == b
 | .int a,.bl b=>a == (if b then 1 else 0)
 | .int a,.int b=>a == b
 | .str a,.str b=>a == b
 | _,_=>false
theorem Adj {A:Around} {s:Shared} {y x:V} {u v:Value} (ry:RelV y u) (rx:RelV x v) (fy:Bd y=true) (fx:Bd x=true):SeqAt.EqAt A s u v (eqV y x):=by
 cases y with
 | non=>
  cases ry
  cases x with
  | non=>cases rx; exact SeqAt.EqAt.same _
  | bl b=>cases rx; exact SeqAt.EqAt.none_bool b
  | int b=>obtain ⟨t,rfl⟩:=rx; exact SeqAt.EqAt.none_int b t
  | str b=>obtain ⟨t,rfl⟩:=rx; exact SeqAt.EqAt.none_str b t
  | _=>exact absurd (show false=true from fx) Zf_
 | bl a=>
  cases ry
  cases x with
  | non=>cases rx; exact SeqAt.EqAt.bool_none a
  | bl b=>cases rx; exact SeqAt.EqAt.bool_bool a b
  | int b=>obtain ⟨t,rfl⟩:=rx; exact SeqAt.EqAt.bool_int a b t
  | str b=>obtain ⟨t,rfl⟩:=rx; exact SeqAt.EqAt.bool_str a b t
  | _=>exact absurd (show false=true from fx) Zf_
 | int a=>
  obtain ⟨t',rfl⟩:=ry
  cases x with
  | non=>cases rx; exact SeqAt.EqAt.int_none a t'
  | bl b=>cases rx; exact SeqAt.EqAt.int_bool a t' b
  | int b=>obtain ⟨t,rfl⟩:=rx; exact SeqAt.EqAt.int_int a t' b t
  | str b=>obtain ⟨t,rfl⟩:=rx; exact SeqAt.EqAt.int_str a t' b t
  | _=>exact absurd (show false=true from fx) Zf_
 | str a=>
  obtain ⟨t',rfl⟩:=ry
  cases x with
  | non=>cases rx; exact SeqAt.EqAt.str_none a t'
  | bl b=>cases rx; exact SeqAt.EqAt.str_bool a t' b
  | int b=>obtain ⟨t,rfl⟩:=rx; exact SeqAt.EqAt.str_int a t' b t
  | str b=>obtain ⟨t,rfl⟩:=rx; exact SeqAt.EqAt.str_str a t' b t
  | _=>exact absurd (show false=true from fx) Zf_
 | _=>exact absurd (show false=true from fy) Zf_
noncomputable def eqU (x:V) (u:Value):Bool:=match u with
 | .none=>eqV .non x
 | .bool b=>eqV (.bl b) x
 | .int i _=>eqV (.int i) x
 | .str z _=>eqV (.str z) x
 | _=>false
theorem Nx {x y:V} {u:Value} (r:RelV y u) (f:Bd y=true):eqU x u=eqV y x:=by
 cases y with
 | non=>cases r; rfl
 | bl b=>cases r; rfl
 | int i=>obtain ⟨t,rfl⟩:=r; rfl
 | str z=>obtain ⟨t,rfl⟩:=r; rfl
 | _=>exact absurd (show false=true from f) Zf_
theorem Az {x:V}:∀{xs:List V} {us:List Value},Vals xs us->xs.all Bd=true->us.any (eqU x)=xs.any fun y=>eqV y x
 | _,_,.nil,_=>rfl
 | y :: xs,u :: us,.cons r t,f=>by
  rw [List.all_cons,Bool.and_eq_true] at f
  rw [List.any_cons,List.any_cons,Nx r f.1,Az t f.2]
theorem U5 {A:Around} {s:Shared} {x:V} {v:Value} (rx:RelV x v) (fx:Bd x=true):∀{xs:List V} {us:List Value},Vals xs us->xs.all Bd=true->∀u∈us,SeqAt.EqAt A s u v (eqU x u)
 | _,_,.nil,_=>fun u hu=>by cases hu
 | y :: xs,u :: us,.cons r t,f=>fun u' hu=>by
  rw [List.all_cons,Bool.and_eq_true] at f
  rcases Zg_.mp hu with rfl | hu
  ·rw [Nx r f.1]; exact Adj r rx f.1 fx
  ·exact U5 rx fx t f.2 u' hu
noncomputable def inV (x:V) (xs:List V):Bool:=xs.any fun y=>eqV y x
noncomputable def rIn (K:Θf) (neg:Bool):R2:=fun x y H Q=>∃p xs,y = .ref p/\(SqL K H p xs\/SqT K H p xs)/\Bd x=true/\xs.all Bd=true/\Q (.bl (if neg then !inV x xs else inV x xs)) H
theorem Uh:OpR X (compareOp .In) (rIn X.K false):=by
 intro pins s σ H x y v u Q I rx ry h
 obtain ⟨p,xs,rfl,hq,fx,fs,q⟩:=h
 cases ry
 rcases hq with hq | hq
 ·obtain ⟨its,r,pl,hz⟩:=I.list hq
  refine SeqAt.in_listAt (eqU x) pl.isList (fun w hw=>U5 rx fx r fs w (by simpa using hw)) ⟨.bl _,H,I,rfl,?_⟩
  rw [show its.toArray.any (eqU x)=its.any (eqU x) by simp,Az r fs]
  exact q
 ·obtain ⟨its,r,pl,hz⟩:=I.tuple hq
  refine SeqAt.in_tupleAt (eqU x) pl (fun w hw=>U5 rx fx r fs w (by simpa using hw)) ⟨.bl _,H,I,rfl,?_⟩
  rw [show its.toArray.any (eqU x)=its.any (eqU x) by simp,Az r fs]
  exact q
theorem Bl:OpR X (compareOp .NotIn) (rIn X.K true):=by
 intro pins s σ H x y v u Q I rx ry h
 obtain ⟨p,xs,rfl,hq,fx,fs,q⟩:=h
 cases ry
 rcases hq with hq | hq
 ·obtain ⟨its,r,pl,hz⟩:=I.list hq
  refine SeqAt.notIn_listAt (eqU x) pl.isList (fun w hw=>U5 rx fx r fs w (by simpa using hw)) ⟨.bl _,H,I,rfl,?_⟩
  rw [show its.toArray.any (eqU x)=its.any (eqU x) by simp,Az r fs]
  exact q
 ·obtain ⟨its,r,pl,hz⟩:=I.tuple hq
  refine SeqAt.notIn_tupleAt (eqU x) pl (fun w hw=>U5 rx fx r fs w (by simpa using hw)) ⟨.bl _,H,I,rfl,?_⟩
  rw [show its.toArray.any (eqU x)=its.any (eqU x) by simp,Az r fs]
  exact q
theorem Jf:Q6 X (.builtin "len") (fun xs H Q=>∃p ys,xs=[.ref p]/\(SqL X.K H p ys\/SqT X.K H p ys)/\Q (.int ys.length) H):=by
 intro pins s σ H xs us Q I r h
 obtain ⟨p,ys,rfl,hq,q⟩:=h
 obtain ⟨u,rfl,rx⟩:=Z9 r
 cases rx
 have hn:=Cv
 rcases hq with hq | hq
 ·obtain ⟨its,r',pl,hz⟩:=I.list hq
  have hlen:=r'.length
  exact Calls.call_len_list pl.isList (by simp only [List.size_toArray] <;> omega) ⟨.int ys.length,H,I.tok _,⟨s.toks + 1,by rw [List.size_toArray,hlen]⟩,q⟩
 ·obtain ⟨its,r',pl,hz⟩:=I.tuple hq
  have hlen:=r'.length
  exact len_tuple pl (by simp only [List.size_toArray] <;> omega) ⟨.int ys.length,H,I.tok _,⟨s.toks + 1,by rw [List.size_toArray,hlen]⟩,q⟩
theorem Jg:Q6 X (.type "list") (fun xs H Q=>∃p ys,xs=[.ref p]/\(SqL X.K H p ys\/SqT X.K H p ys)/\∀l,H l=none->Q (.ref l) (upd H l (.lst ys))):=by
 intro pins s σ H xs us Q I r h
 obtain ⟨p,ys,rfl,hq,q⟩:=h
 obtain ⟨u,rfl,rx⟩:=Z9 r
 cases rx
 have fin:∀(its:List Value),Vals ys its->ys.length<=sizeLine->∀(h':Heap) (c':Nat),(∀b o',s.heap.get? b=some o'->h'.get? b=some o')->
   h'.get? s.heap.objs.size=some { cls:=.type "list",dict:=none,data:=.seq its.toArray c',slots:=#[] }->EP X pins σ Q (.ref s.heap.objs.size) { s with heap:=h' }:=fun its r' hz h' c' kp e=>
  ⟨.ref s.heap.objs.size,_,I.laid (t':=s.toks) kp (Zd_ _) (show ObjOk X.prog X.w _ h' _ (.lst ys) from ⟨hz,its,c',r',e⟩),rfl,q _ (I.hok.fresh (Zd_ _))⟩
 rcases hq with hq | hq
 ·obtain ⟨its,r',pl,hz⟩:=I.list hq
  have hlen:=r'.length
  obtain ⟨o,ho,hc,n,hd⟩:=pl.isList
  exact call_list_seq p (.inl rfl) ho hc hd (fun h' c' kp e=>fin its r' hz h' c' kp e) (by simp only [List.size_toArray] <;> omega)
 ·obtain ⟨its,r',pl,hz⟩:=I.tuple hq
  have hlen:=r'.length
  obtain ⟨o,ho,hc,n,hd⟩:=pl
  exact call_list_seq p (.inr rfl) ho hc hd (fun h' c' kp e=>fin its r' hz h' c' kp e) (by simp only [List.size_toArray] <;> omega)
noncomputable def tyV (K:Θf) (T:String) (x:V) (H:Hp):Prop:=match x with
 | .str _=>T = "str"
 | .int _=>T = "int"
 | .ref p=>(T = "list"/\∃xs,SqL K H p xs)\/(T = "tuple"/\∃o,K.lookup p=some o/\o.cls = .type "tuple"/\o.dict=none)\/
   (T = "dict"/\((∃kvs,H p=some (.dK kvs))\/∃kvs,H p=some (.dT kvs)))\/(T = "set"/\∃S n,H p=some (.set S n))
 | _=>False
theorem Aai {pins:List (Addr × Obj)} {σ:St} {H:Hp} {s:Shared} {T:String} {x:V} {v:Value} (I:Inv X pins σ H s) (r:RelV x v) (ty:tyV X.K T x H) :
  s.TypeIs v T/\∀a,v = .ref a->∃ob,s.heap.get? a=some ob/\ob.dict=none:=by
 cases x with
 | str z=>
  obtain ⟨t,rfl⟩:=r
  cases (show T = "str" from ty)
  exact ⟨typeIs_str s z t,fun _ e=>nomatch e⟩
 | int i=>
  obtain ⟨t,rfl⟩:=r
  cases (show T = "int" from ty)
  exact ⟨typeIs_int s i t,fun _ e=>nomatch e⟩
 | ref p=>
  cases r
  rcases ty with ⟨rfl,xs,hq⟩ | ⟨rfl,o,hk,hc,hd⟩ | ⟨rfl,hk⟩ | ⟨rfl,S,n,hk⟩
  ·obtain ⟨its,_,pl,_⟩:=I.list hq
   refine ⟨pl.isList.typeIs,fun a e=>?_⟩
   cases e
   obtain ⟨o,n,e,c,hd,_⟩:=pl
   exact ⟨o,e,hd⟩
  ·refine ⟨⟨o,I.kIn p o hk,hc⟩,fun a e=>?_⟩
   cases e
   exact ⟨o,I.kIn _ o hk,hd⟩
  ·have z:∃o,s.heap.get? p=some o/\o.ExactDict:=by
    rcases hk with ⟨kvs,hk⟩ | ⟨kvs,hk⟩
    ·obtain ⟨_,_,_,_,o,_,_,e,ex,_⟩:=I.hok p _ hk
     exact ⟨o,e,ex⟩
    ·obtain ⟨_,_,_,_,o,_,_,e,ex,_⟩:=I.hok p _ hk
     exact ⟨o,e,ex⟩
   obtain ⟨o,e,ex⟩:=z
   refine ⟨⟨o,e,ex.1⟩,fun a e2=>?_⟩
   cases e2
   exact ⟨o,e,ex.2.1⟩
  ·obtain ⟨o,_,_,_,e,ex,_⟩:=I.hok p _ hk
   refine ⟨⟨o,e,ex.1⟩,fun a e2=>?_⟩
   cases e2
   exact ⟨o,e,ex.2.1⟩
 | _=>exact False.elim ty
noncomputable def Ahf (K:Θf) (T:String) (r:V->List V->Hp->VK->Prop) (to:TE):TE:=fun σ H Q=>to σ H fun x H1=>tyV K T x H1/\r x [] H1 Q
noncomputable def tBM (K:Θf) (T:String) (r:V->List V->Hp->VK->Prop) (to:TE) (t:TA):TE:=fun σ H Q=>to σ H fun x H1=>tyV K T x H1/\t σ H1 fun xs H2=>r x xs H2 Q
variable {o e:Expr} {es:List Expr} {to:TE} {t:TA} {name:Str} {apos cpos:Pos} {T id:String} {r:V->List V->Hp->VK->Prop}
theorem Aeg (pa:PlainAttrs T) (slot:Slot T name id) (hty:typeOf (.builtin id)=pure (.type "method_descriptor")) (hm:MtR X id r) (ho:PE X o to)
  (hbase:attributeBase o name X.env (eval o X.env)=eval o X.env:=by rfl) (hline:(apos.endLine == cpos.line)=true:=by rfl):PE X (.Call (.Attribute o name apos) [] [] cpos) (Ahf X.K T r to):=by
 intro pins s σ H Q I h
 refine wpAny_Call_method0_late hbase hline (thn (ho pins s σ H _ I h) fun v s1 ⟨x,H1,I1,r1,ty,q1⟩=>?_)
 obtain ⟨h1,h2⟩:=Aai I1 r1 ty
 exact ⟨T,id,pa,slot,hty,h1,h2,Calls.callWith_builtin rfl (PySem.evalArgs_none (hm pins s1 σ H1 x [] v [] Q I1 r1 .nil q1))⟩
theorem I9 (pa:PlainAttrs T) (slot:Slot T name id) (hty:typeOf (.builtin id)=pure (.type "method_descriptor")) (hm:MtR X id r) (ho:PE X o to) (ha:PA X (e :: es) t)
  (hbase:attributeBase o name X.env (eval o X.env)=eval o X.env:=by rfl)
  (hfew:((backTo cpos (starEach (e :: es) X.env)).all (fun x=>!x.1) && (backToKw cpos (keywordEach [] X.env)).all (fun x=>x.1.isSome)
   && decide ((e :: es).length + ([]:List Keyword).length + (if ([]:List Keyword).isEmpty then 0 else 1) < 30))=true:=by rfl)
  (hline:(apos.endLine == cpos.line)=true:=by rfl) (hs:starEach (e :: es) X.env=(false,eval e X.env) :: starEach es X.env:=by rfl) (hplain:(backTo cpos (starEach es X.env)).any (·.1)=false:=by rfl) :
  PE X (.Call (.Attribute o name apos) (e :: es) [] cpos) (tBM X.K T r to t):=by
 intro pins s σ H Q I h
 refine wpAny_Call_method_late hbase hfew hline rfl (thn (ho pins s σ H _ I h) fun v s1 ⟨x,H1,I1,r1,ty,q1⟩=>?_)
 obtain ⟨h1,h2⟩:=Aai I1 r1 ty
 refine ⟨T,id,pa,slot,hty,h1,h2,?_⟩
 have hA:=ha cpos pins s1 σ H1 _ I1 q1
 rw [hs] at hA ⊢
 refine Calls.callWith_builtin (by show (false || (backTo cpos (starEach es X.env)).any (·.1))=false; rw [hplain] <;> rfl) (Calls.evalArgs_plain ?_)
 exact thn hA fun us s2 ⟨vs,H2,I2,r2,q2⟩=>hm pins s2 σ H2 x vs v us Q I2 r1 r2 q2
end
noncomputable def MtM (X:Cx) (id:String) (r:V->List V->Hp->VK->Prop):Prop:=
 ∀(pins:List (Addr × Obj)) (s:Shared) (σ:St) (H:Hp) (x:V) (xs:List V) (v:Value) (us:List Value) (Q:VK),Inv X pins σ H s->RelV x v->Vals xs us->r x xs H Q->
  wpAny (model X.prog X.w) X.A (call (.builtin id) (v :: us)) (EP X pins σ Q) X.xe s
theorem Vals.one:∀{x:V} {us:List Value},Vals [x] us->∃u,us=[u]/\RelV x u
 | _,_,.cons r .nil=>⟨_,rfl,r⟩
theorem Vals.eraseIdx:∀{xs:List V} {us:List Value} (i:Nat),Vals xs us->Vals (xs.eraseIdx i) (us.eraseIdx i)
 | _,_,_,.nil=>.nil
 | _,_,0,.cons _ t=>t
 | _,_,i + 1,.cons r t=>.cons r (Vals.eraseIdx i t)
theorem Ic {α:Type}:∀(l:List α) (i:Nat),(l.eraseIdx i).length<=l.length
 | [],_=>Zd_ _
 | _ :: _,0=>Nat.le_succ _
 | _ :: r,i + 1=>Nat.succ_le_succ (Ic r i)
section
variable {X:Cx} {pins:List (Addr × Obj)} {σ:St} {H:Hp} {s:Shared} {l b:Addr} {xs ys zs:List V}
theorem Inv.lset {its its':List Value} {n:Nat} {f:Array Value->Array Value} {t':Nat} (I:Inv X pins σ H s) (hH:H l=some (.lst xs))
  (e:s.heap.get? l=some { cls:=.type "list",data:=.seq its.toArray n }) (hf:f its.toArray=its'.toArray) (hv:Vals ys its') (hz:ys.length<=sizeLine) :
  Inv X pins σ (upd H l (.lst ys)) { s with heap:=s.heap.update l (Obj.mapSeq f),toks:=t' }:=by
 have q:=PySem.IsL.update e f
 rw [hf] at q
 refine I.write (x:=l) (e:=l) (by rw [hH]; exact trivial) (.inl rfl) (fun b' u hb hu=>(Heap.get?_update_other s.heap (Obj.mapSeq f) (Ne.symm hb)).trans hu) ⟨_,q⟩ ?_
 exact ⟨hz,its',_,hv,q⟩
theorem Inv.lnew {its:List Value} {t':Nat} (I:Inv X pins σ H s) (hv:Vals ys its) (hz:ys.length<=sizeLine) :
  Inv X pins σ (upd H s.heap.objs.size (.lst ys)) { s with heap:=s.heap.push { cls:=.type "list",data:=.seq its.toArray },toks:=t' }:=
 I.laid (fun _ _ q=>Zc_ _ q) (Zd_ _) ⟨hz,its,0,hv,Zm_ _ rfl⟩
theorem Inv.fresh (I:Inv X pins σ H s):H s.heap.objs.size=none:=I.hok.fresh (Zd_ _)
theorem Inv.lstM (I:Inv X pins σ H s) (hH:H l=some (.lst xs)):xs.length<=sizeLine/\∃(its:List Value) (n:Nat),Vals xs its/\xs.length=its.length/\s.heap.get? l=some { cls:=.type "list",data:=.seq its.toArray n }:=by
 obtain ⟨z,its,n,r,e⟩:=I.hok l _ hH
 exact ⟨z,its,n,r,r.length,e⟩
theorem Xm {n:Nat} (h:n<=sizeLine):Builtin.List.listTooLong n=false:=by
 unfold Builtin.List.listTooLong
 exact decide_eq_false (by omega)
end
section
variable {X:Cx}
noncomputable def Ab7:V->List V->Hp->VK->Prop:=fun x vs H Q=>∃l xs y,x = .ref l/\vs=[y]/\H l=some (.lst xs)/\xs.length < sizeLine/\Q .non (upd H l (.lst (xs++[y])))
theorem N2:MtM X "list.append" Ab7:=by
 intro pins s σ H x vs v us Q I rx rv h
 obtain ⟨l,xs,y,rfl,rfl,hH,hz,q⟩:=h
 cases rx
 obtain ⟨u,rfl,ru⟩:=rv.one
 obtain ⟨z,its,n,r,hl,e⟩:=I.lstM hH
 refine call_meets F.slot_list_append ⟨_,e,rfl⟩ F.entry_list_append (F.args_list_append_2 _ _) (PySem.list_append l its.toArray n u (by rw [Zx_]; omega)) ⟨e,?_⟩
 refine ⟨.non,_,I.lset (its':=its++[u]) hH e (by simp) (r.append (.cons ru .nil)) ?_,rfl,q⟩
 rw [Zv_,List.length_singleton]
 omega
noncomputable def Ab8:V->List V->Hp->VK->Prop:=fun x vs H Q=>∃l b xs zs,x = .ref l/\vs=[.ref b]/\H l=some (.lst xs)/\H b=some (.lst zs)/\xs.length + zs.length<=sizeLine/\Q .non (upd H l (.lst (xs++zs)))
theorem Cy:MtM X "list.extend" Ab8:=by
 intro pins s σ H x vs v us Q I rx rv h
 obtain ⟨l,b,xs,zs,rfl,rfl,hH,hB,hz,q⟩:=h
 cases rx
 obtain ⟨u,rfl,ru⟩:=rv.one
 cases ru
 obtain ⟨z,its,n,r,hl,e⟩:=I.lstM hH
 obtain ⟨z2,its2,n2,r2,hl2,e2⟩:=I.lstM hB
 have hsz:its.toArray.size + its2.toArray.size<=sizeLine:=by rw [Zx_,Zx_]; omega
 have hlong:¬(!its.toArray.isEmpty && Builtin.List.listTooLong (its.toArray.size + its2.toArray.size))=true:=by
  rw [Xm hsz,Bool.and_false]
  exact Zf_
 refine call_meets F.slot_list_extend ⟨_,e,rfl⟩ F.entry_list_extend (F.args_list_extend_2 _ _)
  (AutoSeq1.list_extend_list_list_0 l its.toArray n b its2.toArray n2 hlong (by rw [Zx_]; omega) (by omega)) ⟨e,e2,?_⟩
 refine ⟨.non,_,I.lset (its':=its++its2) hH e (by simp) (r.append r2) ?_,rfl,q⟩
 rw [Zv_]
 omega
noncomputable def Aep:V->List V->Hp->VK->Prop:=fun x vs H Q=>∃l xs i k y,x = .ref l/\vs=[.int i]/\H l=some (.lst xs)/\-(2 ^ 63)<=i/\i < 2 ^ 63/\seqIndex? i xs.length=some k/\xs[k]? = some y/\Q y (upd H l (.lst (xs.eraseIdx k)))
theorem Xh:MtM X "list.pop" Aep:=by
 intro pins s σ H x vs v us Q I rx rv h
 obtain ⟨l,xs,i,k,y,rfl,rfl,hH,h1,h2,hk,hy,q⟩:=h
 cases rx
 obtain ⟨u,rfl,ru⟩:=rv.one
 obtain ⟨t,rfl⟩:=ru
 obtain ⟨z,its,n,r,hl,e⟩:=I.lstM hH
 obtain ⟨w,hw,rw'⟩:=r.get hy
 refine call_meets F.slot_list_pop ⟨_,e,rfl⟩ F.entry_list_pop (F.args_list_pop_2 _ _)
  (MeetsSeq.list_pop_at l its.toArray n i t k w (fitsIndex_both h1 h2) (by rw [Zx_,<-hl]; exact hk) (by rw [<-Array.getElem?_toList]; exact hw) (by rw [Zx_]; omega)) ⟨e,?_⟩
 refine ⟨y,_,I.lset (its':=its.eraseIdx k) hH e ?_ (r.eraseIdx k) ?_,rw',q⟩
 ·show its.toArray.eraseIdxIfInBounds k=(its.eraseIdx k).toArray
  rw [List.eraseIdxIfInBounds_toArray]
 ·have:=Ic xs k
  omega
noncomputable def Ag6:R2:=fun x y H Q=>∃l b xs zs,x = .ref l/\y = .ref b/\H l=some (.lst xs)/\H b=some (.lst zs)/\xs.length + zs.length<=sizeLine/\∀p,H p=none->Q (.ref p) (upd H p (.lst (xs++zs)))
theorem K6:OpR X (binaryOp .Add) Ag6:=by
 intro pins s σ H x y v u Q I rx ry h
 obtain ⟨l,b,xs,zs,rfl,rfl,hH,hB,hz,q⟩:=h
 cases rx
 cases ry
 obtain ⟨z,its,n,r,hl,e⟩:=I.lstM hH
 obtain ⟨z2,its2,n2,r2,hl2,e2⟩:=I.lstM hB
 refine PySem.P.add_list e e2 ?_ (by rw [Zx_,Zx_]; omega)
 have ea:its.toArray++its2.toArray=(its++its2).toArray:=by simp
 rw [ea]
 exact ⟨.ref _,_,I.lnew (t':=s.toks) (r.append r2) (by rw [Zv_]; omega),rfl,q _ I.fresh⟩
end
section
variable {prog:Program} {w:World} {A:Around} {E:Value->Shared->Prop} {s:Shared}
end
section
variable {X:Cx}
end
end L2
namespace Att
open PySem PySem.W PySem.Calls PyProof.Rows
theorem Ef {P:Params} {h:Heap}:∀(ns:List Int) (vs:List Value),WellAll P h vs (ns.map WData.int)->IntsAre vs ns:=by
 intro ns
 induction ns with
 | nil=>
  intro vs w
  rw [List.map_nil] at w
  cases w
  exact .nil
 | cons n ns ih=>
  intro vs w
  rw [List.map_cons] at w
  cases w with
  | cons a b=>
   cases a
   exact .cons _ _ (ih _ b)
theorem Uu {l:OpenLaw} {n:Nat} (hn:l.most=some n) {P:Params} {h:Heap} {args:List WData} {vals:List Value}
  (hpre:l.row.toRowW.claim.pre args=true) (hwl:WellAll P h vals args) :
  ∃a vs ns,vals=[Value.ref a]/\args=[WData.list (ns.map WData.int)]/\h.get? a=some { cls:=.type "list",data:=.seq vs.toArray }/\IntsAre vs ns/\ns.length<=n:=by
 have hsh:WShape.hasAll [] args [.list .int]=true:=(pre_splitW hpre).1
 have hc:l.pre.holds [] { args:=args }=true:=(pre_splitW hpre).2
 obtain ⟨d,r,rfl,h1,h2⟩:=hasAllW_cons hsh
 obtain rfl:=hasAllW_nil h2
 obtain ⟨xs,rfl,h3⟩:=hasW_list h1
 obtain ⟨ns,rfl⟩:=items_int h3
 have hlen:ns.length<=n:=by
  unfold OpenLaw.pre at hc
  have h4:(WTm.not (.lt (.lit (.int (n:Int))) (.len (.arg 0)))).holds [] { args:=[.list (ns.map .int)] }=true:=by
   have h4:=(holds_andW hc).1
   rw [hn] at h4
   exact h4
  have h5:=condW_of h4 (w_not (w_lt w_lit (w_len_list (w_arg rfl))))
  rw [Θl] at h5
  refine Nat.le_of_not_lt fun q=>?_
  have q':(n:Int) < ((ns.length:Nat):Int):=by omega
  first
   | (rw [Zr_ q'] at h5; exact absurd h5 (by decide))
   | (simp at h5; omega)
 cases hwl with
 | cons w1 w2=>
  cases w2
  cases w1 with
  | list ho hall=>exact ⟨_,_,ns,rfl,rfl,ho,Ef ns _ hall,hlen⟩
theorem Um (l:OpenLaw) (args:List WData):l.row.toRowW.claim.post args (.bool true) args=true:=
 postW_of (r:=l.row.toRowW) (X:=(true == true))
  (show WShape.has [] (.bool true) .bool=true by first | rfl | decide | simp [WShape.has,WShape.arms,WShape.armsAll])
  (show (WTm.eq .res (.lit (.bool true))).value [] { args:=args,res:=some (.bool true),after:=args }=some (.bool (true == true)) from w_eq_bool (w_res rfl) w_lit) rfl
theorem attach_call {l:OpenLaw} {n:Nat} {q:Program} {loose:List Str} {XP:(Str->Option Value)->Heap->Prop} {YP:World->Heap->Prop} {d:DefRec}
  (hn:l.most=some n) (hdf:d.params.defaults=[])
  (call:∀(w:World) (s₀ s₁:Shared) (mg mb:Str->Option Value) (fa:Addr) (o:Obj) (pm cd doc:Value) (a:Addr) (vs:List Value) (ns:List Int),
   Ground q loose [] XP w s₀ mg mb s₁.heap->YP w s₁.heap->
   s₁.heap.get? fa=some o->o.data = .func (docDef d.name d.params d.body d.scope pm cd doc)->s₁.heap.CodeRec cd d.name->mg d.name=some (.ref fa)->
   s₁.heap.get? a=some { cls:=.type "list",data:=.seq vs.toArray }->IntsAre vs ns->ns.length<=n->s₁.gens = #[]->
   codeAny (model l.prog w) callerA (.call (.ref fa) ⟨[.ref a],[]⟩) (fun r s'=>r = .ok (.ret (.bool true))/\OldK s₁.heap s'.heap/\s'.os=s₁.os/\AllBare s'.gens) s₁) :
  WalkO q loose XP YP l.row.toRowW d [] (fun f vs=>PySem.call f vs):=by
 intro w s₀ s₁ mg mb G Y fa o pm cd doc dV kV ho hd hcd hD hmg hg args vals as hpre hlay hrd hwl hlo
 obtain rfl:dV = .none:=Dflts.none hD hdf
 obtain rfl:kV = .none:=Dflts.noKw hD
 obtain ⟨a,vs,ns,rfl,rfl,hobj,hints,hlen⟩:=Uu hn hpre hwl
 refine enter_call (codeAny_mono (call w s₀ s₁ mg mb fa o pm cd doc a vs ns G Y ho (fd_plain hd) hcd hmg hobj hints hlen hg) fun r s' hq=>?_)
 obtain ⟨rfl,h2,h3,h4⟩:=hq
 exact ⟨.inl ⟨.bool true,.bool true,[],rfl,fun _=>rfl,.bool true,Um l _,fun _=>⟨List.Pairwise.nil,fun _ hm=>(nomatch hm)⟩⟩,h2,h3,h4⟩
section
variable {prog:Program} {w:World} {A:Around} {E:Value->Shared->Prop} {s:Shared} {K:Frag}
end
end Att
namespace L2
open PySem PySem.Spec PyProof.Rows
theorem Dm:∀{vs:List Value} {ns:List Int},IntsAre vs ns->Vals (ns.map V.int) vs
 | _,_,.nil=>.nil
 | _,_,.cons n t h=>.cons ⟨t,rfl⟩ (Dm h)
noncomputable def Aap (H:Hp):Prop:=∀b,H b=none\/∃o xs,H b=some (.frz o (.lst xs))
theorem Xb {P:Program} {w:World} {K:Θf} {mg mb:Str->Option Value} {CX:CXT} {k:Nat} {fa a:Addr} {fd:FuncData} {x:Str} {sp:Sp} {s₁:Shared} {vs:List Value} {ns:List Int}
  (KX:K.In s₁.heap) (hns:s₁.heap.Ns mainGlobals mg) (hb:s₁.heap.Ns builtinsNs mb) (hbb:∀x:Str,x≠"__name__"->mb x=bootBuiltins x) (hlim:s₁.heap.NoLimit) (hg:s₁.gens = #[])
  (ha:s₁.heap.get? a=some { cls:=.type "list",data:=.seq vs.toArray }) (hi:IntsAre vs ns) (hl:ns.length<=sizeLine) (hr:Room k callerA)
  (F:∀base:Heap,K.In base->base.Ns mainGlobals mg->FnOk P w K mg base CX k fa fd [x] sp) (hbind:∀(s:Shared) (u:Value),BindsTo s fd ⟨[u],[]⟩ [(x,u)])
  (hsp:∀H:Hp,Aap H->SqL K H a (ns.map V.int)->sp [.ref a] H (fun v _=>v = .bl true) fun _ _ _=>False)
  (hCX:∀H e s',CX [] H s₁ (fun _ _ _=>False) e s'->False) :
  codeAny (model P w) callerA (.call (.ref fa) ⟨[.ref a],[]⟩) (fun r s'=>r = .ok (.ret (.bool true))/\OldK s₁.heap s'.heap/\s'.os=s₁.os/\AllBare s'.gens) s₁:=by
 have rv:=Dm hi
 have lenV:=hi.length
 have core:∀H:Hp,Aap H->SqL K H a (ns.map V.int)->HOk P w H s₁.heap->(∀b,H b≠none->b=a)->(H a≠none->K.lookup a=none)->
   codeAny (model P w) callerA (.call (.ref fa) ⟨[.ref a],[]⟩) (fun r s'=>r = .ok (.ret (.bool true))/\OldK s₁.heap s'.heap/\s'.os=s₁.os/\AllBare s'.gens) s₁:=by
  intro H hO hS hok hA hK
  have base_of:∀{b:Addr} {o:Obj},s₁.heap.get? b=some o->H b=none->(Jo s₁.heap H).get? b=some o:=fun e n=>Wo e n
  have noA:∀{b:Addr} {o:Obj} {es:Array DictEntry} {ep:Nat},s₁.heap.get? b=some o->o.data = .dict es ep->H b=none:=fun {b o es ep} e d=>by
   cases q:H b with
   | none=>rfl
   | some u=>
    have e':b=a:=hA b (by rw [q]; simp)
    subst e'
    rw [ha] at e; cases e
    have d':Data.seq vs.toArray _=Data.dict es ep:=d
    cases d'
  have nsK:∀{b:Addr} {m:Str->Option Value},s₁.heap.Ns b m->(Jo s₁.heap H).Ns b m:=fun {b m} ⟨o,es,ep,e,d,r⟩=>⟨o,es,ep,base_of e (noA e d),d,r⟩
  have hKb:K.In (Jo s₁.heap H):=fun b o e=>base_of (KX b o e) (by
   cases q:H b with
   | none=>rfl
   | some u=>
    have e':b=a:=hA b (by rw [q]; simp)
    subst e'
    rw [hK (by rw [q]; simp)] at e; cases e)
  have hM:Mod K mg (Jo s₁.heap H):=⟨hKb,nsK hns,⟨mb,nsK hb,hbb⟩,let ⟨mc,h1,h2⟩:=hlim; ⟨mc,nsK h1,h2⟩⟩
  have e0:Env0 P w K mg (Jo s₁.heap H) callerA [] s₁ H:=⟨rfl,hM,fun b o e=>Abg e,Nat.le_of_eq (Te _ _),trivial,fun b hb=>absurd (show b∈([]:List Addr) from hb) (by simp),hok,.of_eq hg⟩
  refine codeAny_mono ((F _ hKb (nsK hns)).run callerA [] s₁ H ⟨[.ref a],[]⟩ [.ref a] [.ref a] _ _ hr e0 (hbind s₁ (.ref a)) (.cons rfl .nil) (hsp H hO hS)) fun r s' h=>?_
  cases r with
  | error e=>exact (hCX H e s' h).elim
  | ok fl=>
   cases fl with
   | next=>exact False.elim h
   | brk=>exact False.elim h
   | cont=>exact False.elim h
   | ret u=>
    obtain ⟨v,H',os,bare,un,hok',r',q⟩:=h
    have q':v = .bl true:=q
    subst q'
    obtain rfl:u=Value.bool true:=r'
    refine ⟨rfl,OldK.of_keep fun b o e=>?_,os,bare⟩
    cases q:H b with
    | none=>exact un.keep b o e q (by intro z; exact absurd (show b∈([]:List Addr) from z) (by simp)) (by simp)
    | some u=>
     rcases hO b with z | ⟨ob,xs,z⟩
     ·rw [q] at z; cases z
     ·have z2:=un.frzs b ob _ z
      obtain ⟨e1,_⟩:=hok b _ z
      obtain ⟨e2,_⟩:=hok' b _ z2
      rw [e] at e1; cases e1
      exact e2
 cases hk:K.lookup a with
 | some o=>
  have e:=KX a o hk
  rw [ha] at e
  cases e
  refine core (fun _=>none) (fun _=>.inl rfl) (.inr ⟨_,vs.toArray,_,hk,rfl,rfl,rfl,by rw [List.size_toArray,lenV]; exact hl,by simpa using rv⟩) (fun b u z=>by have z':(none:Option HO)=some u:=z; cases z') (fun b z=>absurd rfl z) fun z=>absurd rfl z
 | none=>
  refine core (fun b=>if b=a then some (.frz { cls:=.type "list",data:=.seq vs.toArray } (.lst (ns.map V.int))) else none) (fun b=>?_) (.inl (.inr ⟨{ cls:=.type "list",data:=.seq vs.toArray },if_pos rfl⟩)) (fun b u z=>?_) (fun b z=>?_) fun _=>hk
  ·by_cases hb:b=a
   ·exact .inr ⟨_,_,if_pos hb⟩
   ·exact .inl (if_neg hb)
  ·by_cases hb:b=a
   ·have z':=(if_pos hb).symm.trans z
    cases z'
    subst hb
    exact ⟨ha,by rw [Θl]; exact hl,vs,_,rv,ha⟩
   ·have z':=(if_neg hb).symm.trans z
    cases z'
  ·by_cases hb:b=a
   ·exact hb
   ·exact absurd (if_neg hb) z
theorem walk_of {l:PySem.W.OpenLaw} {n k:Nat} {q:Program} {loose:List Str} {XP:(Str->Option Value)->Heap->Prop} {YP:World->Heap->Prop} {d:DefRec} {K:Params->Θf} {CX:World->CXT} {sp:World->Sp} {x:Str}
  (hn:l.most=some n) (hn2:n<=sizeLine) (hdf:d.params.defaults=[]) (hr:Room k callerA)
  (hY:∀(w:World) (h:Heap),YP w h->(K w.params).In h)
  (F:∀(w:World) (mg:Str->Option Value) (fa:Addr) (h:Heap),(K w.params).In h->h.Ns mainGlobals mg->mg d.name=some (.ref fa)->
   ∃fd:FuncData,(∀(s:Shared) (u:Value),BindsTo s fd ⟨[u],[]⟩ [(x,u)])/\
    ∀base:Heap,(K w.params).In base->base.Ns mainGlobals mg->FnOk l.prog w (K w.params) mg base (CX w) k fa fd [x] (sp w))
  (hsp:∀(w:World) (H:Hp) (a:Addr) (ns:List Int),ns.length<=n->Aap H->SqL (K w.params) H a (ns.map V.int)->sp w [.ref a] H (fun v _=>v = .bl true) fun _ _ _=>False)
  (hCX:∀(w:World) (H:Hp) (s:Shared) (e:Value) (s':Shared),CX w [] H s (fun _ _ _=>False) e s'->False) :
  PySem.W.WalkO q loose XP YP l.row.toRowW d [] (fun f vs=>PySem.call f vs):=by
 refine Att.attach_call hn hdf fun w s₀ s₁ mg mb fa o pm cd doc a vs ns G Y ho hd hcd hmg hobj hints hlen hg=>?_
 have KX:=hY w _ Y
 obtain ⟨fd,hb,hF⟩:=F w mg fa _ KX G.T.g hmg
 exact Xb KX G.T.g G.T.b G.T.builtins G.T.nolimit hg hobj hints (Zo_ hlen hn2) hr hF hb (fun H hO hS=>hsp w H a ns hlen hO hS) fun H e s'=>hCX w H s₁ e s'
noncomputable def Ek (s:Stmt) (j:Nat):Stmt:=match s with
 | .ClassDef _ _ _ body _ _ _ _ _ _ _=>body.getD j (.Pass ⟨0,0,0,0⟩)
 | _=>.Pass ⟨0,0,0,0⟩
noncomputable def O9 (s:Stmt):Arguments:=match s with
 | .FunctionDef _ a _ _ _ _ _ _ _ _=>a
 | _=>{ posonlyargs:=[],args:=[],vararg:=none,kwonlyargs:=[],kw_defaults:=[],kwarg:=none,defaults:=[] }
noncomputable def N0 (s:Stmt):List Stmt:=match s with
 | .FunctionDef _ _ b _ _ _ _ _ _ _=>b
 | _=>[]
noncomputable def A7 (s:Stmt):Scope:=match s with
 | .FunctionDef _ _ _ _ _ _ sc _ _ _=>sc
 | _=>{ kind:=.function,names:=[],isGenerator:=false,isCoroutine:=false }
noncomputable abbrev CX0:CXT:=fun _ _ _ _ _ _=>False
noncomputable abbrev E0:XK:=fun _ _ _=>False
theorem B2 {X:Cx}:Aa CX0 X E0:=fun _ _ _ _ _ _ _ h=>h.elim
structure Fun (K:Θf) (x qual:Str) (st:Stmt) (f:Addr) (fd:FuncData):Prop where
 ex:∃(oc:Value) (od:Option Addr) (kV doc pm:Value) (an:Option Addr) (cdv ct:Value) (osl:Array (Option Value)),
  fd=PySem.W.fnOf x qual (O9 st) (N0 st) (A7 st) .none kV doc pm an cdv ct/\K.lookup f=some ⟨oc,od,.func fd,osl⟩/\PySem.W.codeIn K cdv qual=true
 kp:Θk K f
section
variable {P:Program} {w:World} {K:Θf} {mg:Str->Option Value} {base:Heap}
theorem Fun.ok {x qual:Str} {st:Stmt} {f:Addr} {fd:FuncData} {N ps:List Str} {k:Nat} {sp:Sp} (F:Fun K x qual st f fd) (S:FnScope N ps (A7 st)) (len:∀vs H Q E,sp vs H Q E->vs.length=ps.length)
  (hbody:∀(cdv:Value) (A:Around) (outer:List Env) (s:Shared) (H:Hp) (vs:List V) (Q:VK) (E:XK),Room k (A.deeper (envOfC qual (A7 st) s.heap.objs.size f cdv))->sp vs H Q E->
   ∃t,PSs (Fl CX0 P w K mg base N qual (A7 st) f cdv A outer s H E).nox (N0 st) t/\t { nx:=fun _ H'=>Q .non H',rt:=Q } (Cf N vs) H):FnOk P w K mg base CX0 (k + 1) f fd ps sp:=by
 obtain ⟨oc,od,kV,doc,pm,an,cdv,ct,osl,rfl,lk,hcd⟩:=F.ex
 refine Acu lk hcd S len fun A outer s H vs Q E hr hsp=>?_
 obtain ⟨t,h,q⟩:=hbody cdv A outer s H vs Q E hr hsp
 exact ⟨t,h.nox,q⟩
theorem Fun.binds {x qual:Str} {st:Stmt} {f:Addr} {fd:FuncData} {ps:List Str} (F:Fun K x qual st f fd)
  (h:∀(kV doc pm:Value) (an:Option Addr) (cdv ct:Value) (us:List Value),us.length=ps.length->bindArgs (PySem.W.fnOf x qual (O9 st) (N0 st) (A7 st) .none kV doc pm an cdv ct) ⟨us,[]⟩=pure (ps.zip us)):Binds K fd ps []:=by
 obtain ⟨oc,od,kV,doc,pm,an,cdv,ct,osl,rfl,lk,hcd⟩:=F.ex
 exact .all (h kV doc pm an cdv ct)
theorem Cq {x qual:Str} {st:Stmt} {f:Addr} {oc:Value} {od an:Option Addr} {osl:Array (Option Value)} {kV doc pm cdv ct:Value} (l:K.lookup f=some ⟨oc,od,.func (PySem.W.fnOf x qual (O9 st) (N0 st) (A7 st) .none kV doc pm an cdv ct),osl⟩)
  (c:PySem.W.codeIn K cdv qual=true) (k:PySem.W.keepIn K (.ref f)=true):Fun K x qual st f (PySem.W.fnOf x qual (O9 st) (N0 st) (A7 st) .none kV doc pm an cdv ct):=⟨⟨oc,od,kV,doc,pm,an,cdv,ct,osl,rfl,l,c⟩,k⟩
end
theorem Acv {A:Around} {k:Nat} (hr:Room k A):A.units + 1 < cLine:=Nat.lt_of_le_of_lt (Nat.add_le_add_left (by decide:1<=64) _) hr.units
theorem D0 {n:Nat} (h:n<=1000):n < sizeLine:=Nat.lt_of_le_of_lt h (by decide)
section
variable {X:Cx}
theorem pv (i:Nat) {x:Str} {pos:Pos} (hN:X.N[i]? = some x:=by rfl) (hv:Vis X.env.scope x:=by first | exact Or.inl rfl | exact Or.inr (Or.inl rfl) | exact Or.inr (Or.inr rfl)) (hd:(x == ("__debug__":Str))=false:=by decide)
  (hcd:(x == ("__classdict__":Str))=false:=by decide):PE X (.Name x pos) (Agr i):=Aek hN hv hd hcd
end
theorem E7 {A B:Prop} (h:B):if false=true then A else B:=by
 rw [if_neg Zf_]
 exact h
theorem N9 {A B:Prop} (h:A):if true=true then A else B:=by
 rw [if_pos rfl]
 exact h
theorem E8 {c A B:Prop} [Decidable c] (h1:c->A) (h2:¬c->B):if c then A else B:=by
 by_cases h:c
 ·rw [if_pos h]
  exact h1 h
 ·rw [if_neg h]
  exact h2 h
noncomputable def Same (H H':Hp):Prop:=∀b o,H b=some o->H' b=some o
theorem Same.refl (H:Hp):Same H H:=fun _ _ h=>h
theorem Same.trans {H H1 H2:Hp} (a:Same H H1) (b:Same H1 H2):Same H H2:=fun c o h=>b c o (a c o h)
theorem Same.free {H H':Hp} (e:Same H H') {l:Addr} (h:H' l=Option.none):H l=Option.none:=by
 cases q:H l with
 | none=>rfl
 | some o=>
  rw [e l o q] at h
  cases h
theorem Same.seq {K:Θf} {H H':Hp} {a:Addr} {xs:List V} (e:Same H H') (h:SqL K H a xs):SqL K H' a xs:=by
 rcases h with (h | ⟨o,h⟩) | h
 ·exact .inl (.inl (e _ _ h))
 ·exact .inl (.inr ⟨o,e _ _ h⟩)
 ·exact .inr h
end L2
set_option maxHeartbeats 4000000
namespace L2
open PySem PySem.Spec PyProof.Rows
noncomputable def clF (cells:List (Str × Addr)):List (Str × NameKind)->List (Str × Addr)->List (Str × Addr)
 | [],cs=>cs
 | (n,k) :: r,cs=>clF cells r (if k == .free then (match cells.lookup n with | some c=>(n,c) :: cs | none=>cs) else cs)
theorem Qj {cells:List (Str × Addr)}:∀(names:List (Str × NameKind)) (cs:List (Str × Addr)) (n:Str) (c:Addr),(n,c)∈clF cells names cs->(n,c)∈cs\/(cells.lookup n=some c/\(n,NameKind.free)∈names)
 | [],cs,n,c,h=>.inl h
 | (m,k) :: r,cs,n,c,h=>by
  rcases Qj r _ n c h with q | ⟨q,z⟩
  ·by_cases hk:(k == NameKind.free)=true
   ·rw [if_pos hk] at q
    have hk':k = .free:=by simpa using hk
    cases e:cells.lookup m with
    | none=>rw [e] at q; exact .inl q
    | some d=>
     rw [e] at q
     rcases Zg_.mp q with z | z
     ·cases z; exact .inr ⟨e,by rw [hk']; exact Θc⟩
     ·exact .inl z
   ·rw [if_neg hk] at q; exact .inl q
  ·exact .inr ⟨q,Θd _ z⟩
theorem Qk {cells:List (Str × Addr)}:∀(names:List (Str × NameKind)) (cs:List (Str × Addr)),∀p∈cs,p∈clF cells names cs
 | [],cs,p,h=>h
 | (m,k) :: r,cs,p,h=>by
  refine Qk r _ p ?_
  by_cases hk:(k == NameKind.free)=true
  ·rw [if_pos hk]
   cases cells.lookup m with
   | none=>exact h
   | some d=>exact Θd _ h
  ·rw [if_neg hk]; exact h
theorem Ji {cells:List (Str × Addr)}:∀(names:List (Str × NameKind)) (cs:List (Str × Addr)) (n:Str) (c:Addr),(n,NameKind.free)∈names->cells.lookup n=some c->(n,c)∈clF cells names cs
 | [],_,_,_,h,_=>nomatch h
 | (m,k) :: r,cs,n,c,h,e=>by
  rcases Zg_.mp h with z | z
  ·cases z
   refine Qk r _ _ ?_
   rw [if_pos (by rfl),e]
   exact Θc
  ·exact Ji r _ n c z e
theorem M7 {β:Type}:∀{l:List (Str × β)} {n:Str} {c:β},(n,c)∈l->∃d,l.lookup n=some d
 | (m,d) :: r,n,c,h=>by
  cases e:n == m with
  | true=>exact ⟨d,by simp [List.lookup_cons,e]⟩
  | false=>
   have e':n≠m:=by simpa using e
   rcases Zg_.mp h with z | z
   ·cases z; exact absurd rfl e'
   ·obtain ⟨q,hq⟩:=M7 z
    exact ⟨q,by simp [List.lookup_cons,e,hq]⟩
theorem O6 {cells:List (Str × Addr)} {names:List (Str × NameKind)} {n:Str} {c:Addr} (h:(clF cells names []).lookup n=some c):cells.lookup n=some c/\(n,NameKind.free)∈names:=by
 rcases Qj names [] n c (PySem.mem_of_lookup h) with z | z
 ·cases z
 ·exact z
theorem Fi {env:Env} {scope:Scope} (hf:∀n,(n,NameKind.free)∈scope.names->∃c,env.cells.lookup n=some c):closureFor scope env=pure (clF env.cells scope.names []):=by
 have go:∀(l:List (Str × NameKind)) (cs:List (Str × Addr)),(∀n,(n,NameKind.free)∈l->∃c,env.cells.lookup n=some c)->
   (forIn l cs (fun x r=>match x with | (name,kind)=>if (kind == NameKind.free)=true then do
    let y <-cellOf env name
    pure (ForInStep.yield ((name,y) :: r)) else pure (ForInStep.yield r)):Sem (List (Str × Addr)))=pure (clF env.cells l cs):=by
  intro l
  induction l with
  | nil=>intro cs _; rfl
  | cons x r ih=>
   intro cs h
   obtain ⟨n,k⟩:=x
   rw [List.forIn_cons]
   by_cases hk:(k == NameKind.free)=true
   ·have hk':k = .free:=by simpa using hk
    obtain ⟨c,e⟩:=h n (by rw [hk']; exact Θc)
    have ec:cellOf env n=pure c:=by unfold cellOf; rw [e]
    simp only [hk,if_true,ec,pure_bind]
    rw [ih _ fun m hm=>h m (Θd _ hm)]
    show _=pure (clF env.cells r _)
    rw [if_pos hk,e]
   ·have hk':(k == NameKind.free)=false:=by simpa using hk
    have e1:=ih cs fun m hm=>h m (Θd _ hm)
    show (((if (k == NameKind.free)=true then _ else pure (ForInStep.yield cs)):Sem _) >>= _)=_
    rw [if_neg hk,pure_bind]
    refine Eq.trans e1 ?_
    show _=pure (clF env.cells r _)
    rw [if_neg hk]
 unfold closureFor
 have:=go scope.names [] hf
 rw [bind_pure]
 exact this
structure CScope (X:Cx) (xs:List Str) (sc:Scope):Prop where
 kind:sc.kind = .function
 nocell:∀y∈sc.names,y.2≠.cell
 names:∀y∈sc.names,y.2 = .local->sc.names.lookup y.1=some .local
 own:∀x∈xs,sc.names.lookup x=some .local
 sep:∀y∈X.N,sc.names.lookup y≠some .local
 frees:∀y∈sc.names,y.2 = .free->X.env.kindOf y.1=some .cell\/X.env.kindOf y.1=some .free
 nd:(xs++X.N).Nodup
noncomputable def cxC (X:Cx) (xs:List Str) (sc:Scope) (ex:List Addr) (s:Shared) (H:Hp):Cx where
 prog:=X.prog
 w:=X.w
 K:=X.K
 mg:=X.mg
 base:=X.base
 A:=X.A
 N:=xs++X.N
 s₀:=s
 H₀:=H
 env:=compEnvC sc (clF X.env.cells sc.names []) s.heap.objs.size X.env
 outer:=X.stack
 stack:=X.stack
 ex:=ex
 fn:=fun _=>false
 calm:=X.calm
 pn:=[]
 xe:=fun _ _=>False
theorem R7 (env:Env) (x:Str):∀names:List (Str × NameKind),
  (names.map fun (n,k)=>if (k == NameKind.free && env.scope.kind == .function && env.kindOf n == some .cell) then (n,NameKind.cell) else (n,k)).lookup x =
   (names.lookup x).map fun k=>if (k == NameKind.free && env.scope.kind == .function && env.kindOf x == some .cell) then NameKind.cell else k
 | []=>rfl
 | (n,k) :: r=>by
  have ih:=R7 env x r
  show List.lookup x ((if (k == NameKind.free && env.scope.kind == .function && env.kindOf n == some .cell)=true then (n,NameKind.cell) else (n,k)) :: _)=_
  cases hx:x == n with
  | true=>
   have e:x=n:=by simpa using hx
   subst e
   by_cases hc:(k == NameKind.free && env.scope.kind == .function && env.kindOf x == some .cell)=true
   ·rw [if_pos hc]
    simp only [List.lookup_cons,hx,Option.map_some]
    rw [if_pos hc]
   ·rw [if_neg hc]
    simp only [List.lookup_cons,hx,Option.map_some]
    rw [if_neg hc]
  | false=>
   by_cases hc:(k == NameKind.free && env.scope.kind == .function && env.kindOf n == some .cell)=true
   ·rw [if_pos hc]; simp only [List.lookup_cons,hx]; exact ih
   ·rw [if_neg hc]; simp only [List.lookup_cons,hx]; exact ih
theorem Nl {sc:Scope} {env:Env} {x:Str} (h:Vis (relabel sc env) x) (hl:sc.names.lookup x≠some .local) (hc:∀y∈sc.names,y.2≠.cell) :
  (x,NameKind.free)∈sc.names/\((relabel sc env).names.lookup x=some .cell\/(relabel sc env).names.lookup x=some .free):=by
 have e:(relabel sc env).names.lookup x=_:=R7 env x sc.names
 unfold Vis at h
 rw [e] at h
 cases k:sc.names.lookup x with
 | none=>rw [k] at h; simp at h
 | some v=>
  have mem:=PySem.mem_of_lookup k
  have nl:v≠.local:=fun z=>hl (by rw [k,z])
  have ncl:v≠.cell:=fun z=>hc _ mem z
  rw [k] at h
  rw [e,k]
  simp only [Option.map_some] at h ⊢
  by_cases hv:v = .free
  ·subst hv
   refine ⟨mem,?_⟩
   split
   ·exact .inl rfl
   ·exact .inr rfl
  ·have:(v == NameKind.free)=false:=by simpa using hv
   simp only [this,Bool.false_and] at h
   rcases h with h | h | h
   ·exact absurd (Θo h) nl
   ·exact absurd (Θo h) ncl
   ·exact absurd (Θo h) hv
section
variable {X:Cx} {pins:List (Addr × Obj)} {σ:St} {H:Hp} {s:Shared} {xs:List Str} {sc:Scope} {ex:List Addr}
theorem CScope.cells (S:CScope X xs sc) (ok:X.Ok):∀n,(n,NameKind.free)∈sc.names->∃c,X.env.cells.lookup n=some c:=fun n h=>ok.has n (S.frees _ h rfl)
theorem Adg (S:CScope X xs sc) (I:Inv X pins σ H s) (he:∀b∈ex,b < s.heap.objs.size/\b∉frs X.stack/\(∀x c,X.env.cells.lookup x=some c->c≠b)/\X.base.get? b=none):(cxC X xs sc ex s H).Ok:=by
 refine ⟨I.ok.mod,S.kind,I.ok.glob,I.ok.blt,Zd_ _,fun x y c h1 h2=>?_,fun x hx=>?_,fun _ _ h=>(by cases h),I.ok.hd,I.ok.frames,.inl rfl,fun b hb=>⟨Zs_ (he b hb).1,fun x c h=>(he b hb).2.2.1 x c (O6 h).1⟩,fun b o e=>?_,?_,fun b o e hb=>?_,fun b hb=>(he b hb).2.1,I.stack,I.stkFree⟩
 ·exact I.ok.inj x y c (O6 h1).1 (O6 h2).1
 ·have hv:(relabel sc X.env).names.lookup x=some .cell\/(relabel sc X.env).names.lookup x=some .free:=hx
  have q:(x,NameKind.free)∈sc.names:=by
   have e:(relabel sc X.env).names.lookup x=_:=R7 X.env x sc.names
   rw [e] at hv
   cases k:sc.names.lookup x with
   | none=>rw [k] at hv; simp at hv
   | some v=>
    have mem:=PySem.mem_of_lookup k
    rw [k] at hv
    simp only [Option.map_some] at hv
    by_cases hvf:v = .free
    ·rw [hvf] at mem; exact mem
    ·have:(v == NameKind.free)=false:=by simpa using hvf
     simp only [this,Bool.false_and] at hv
     rcases hv with h | h
     ·exact absurd (Θo h) (S.nocell _ mem)
     ·exact absurd (Θo h) hvf
  obtain ⟨c,e⟩:=S.cells I.ok x q
  exact M7 (Ji sc.names [] x c q e)
 ·exact I.bs b o e
 ·exact Zo_ I.ok.bsz I.sz
 ·have q:X.base.get? b=none:=(he b hb).2.2.2
  have e':X.base.get? b=some o:=e
  rw [q] at e'; cases e'
theorem Ws {h₁:Heap} {tk:Nat} (S:CScope X xs sc) (I:Inv X pins σ H s) (he:∀b∈ex,b < s.heap.objs.size/\b∉frs X.stack/\(∀x c,X.env.cells.lookup x=some c->c≠b)/\X.base.get? b=none)
  (hn:h₁.Ns s.heap.objs.size (fun _=>none)) (hk:∀b o,s.heap.get? b=some o->h₁.get? b=some o) :
  Inv (cxC X xs sc ex s H) [] (List.replicate xs.length none++σ) H { s with heap:=h₁,toks:=tk }:=by
 have I1:Inv X pins σ H { s with heap:=h₁,toks:=tk }:=I.kept hk
 refine ⟨Adg S I he,rfl,I.bare,Un.kept hk,⟨_,hn,fun i x v h1 h2 h3=>?_⟩,fun x c h=>I1.cell x c (O6 h).1,I.hok.fresh (Nat.le_refl _),fun x c h=>I.freeC x c (O6 h).1,fun p hp=>absurd (show p∈([]:List (Addr × Obj)) from hp) (by simp),I.hok.kept hk,?_⟩
 ·have h1':(xs++X.N)[i]? = some x:=h1
  by_cases hi:i < xs.length
  ·rw [List.getElem?_append_left (by simpa using hi),List.getElem?_replicate,if_pos hi] at h2
   cases h2
  ·have hi':xs.length<=i:=Nat.le_of_not_lt hi
   rw [List.getElem?_append_right (by simpa using hi')] at h2
   rw [ZD hi'] at h1'
   rw [List.length_replicate] at h2
   have hm:x∈X.N:=Θe h1'
   obtain ⟨hf,hkd⟩:=Nl h3 (S.sep x hm) S.nocell
   have hko:=S.frees _ hf rfl
   obtain ⟨m,_,hl⟩:=I1.loc
   obtain ⟨u,r,l⟩:=hl (i - xs.length) x v h1' h2 (by
    rcases hko with z | z
    ·exact .inr (.inl z)
    ·exact .inr (.inr z))
   refine ⟨u,r,.inr ⟨hkd,?_⟩⟩
   rcases l with ⟨z,_⟩ | ⟨_,c,ec,hc⟩
   ·rcases hko with q | q <;> (rw [q] at z; cases z)
   ·obtain ⟨d,ed⟩:=M7 (Ji sc.names [] x c hf ec)
    have:c=d:=by
     have:=(O6 ed).1
     rw [ec] at this
     exact Θo this
    subst this
    exact ⟨c,ed,hc⟩
 ·show (List.replicate xs.length none++σ).length=(xs++X.N).length
  rw [Zv_,Zv_,List.length_replicate,I.len]
end
section
variable {prog:Program} {w:World} {A:Around} {R:Result->Shared->Prop} {s:Shared}
theorem Ll {elt target iter:Expr} {ifs:List Expr} {scope:Scope} {pos:Pos} {it acc:Value} {env:Env} (I:Nat->Shared->Prop)
  (turn:∀n s,I n s->wpAny (model prog w) A (pyNext it) (fun r s₁=>match r with
   | none=>R (.ok .next) s₁
   | some v=>wpAny (model prog w) A (letOwnedTupleGo target it v) (fun _ s₁'=>wpAny (model prog w) A (assign target env v) (fun _ s₂=>
     wpAny (model prog w) A (forIn ifs true fun c r=>if r=true then do let ok <-isTrue c env (eval c env); pure (ForInStep.yield ok) else pure (ForInStep.yield r)) (fun ok s₃=>
      if ok=true then wpAny (model prog w) A (eval elt env) (fun x s₄=>
       wpAny (model prog w) A (call (.builtin "list.append") [acc,x]) (fun _ s₅=>∃m,m < n/\I m s₅) (fun _ _=>False) s₄) (fun _ _=>False) s₃
      else ∃m,m < n/\I m s₃) (fun _ _=>False) s₂) (fun _ _=>False) s₁') (fun _ _=>False) s₁) (fun _ _=>False) s)
  (n:Nat) (h:I n s) :
  codeAny (model prog w) A (.compLoop (.ListComp elt [⟨target,iter,ifs,0⟩] scope pos) 0 it acc env) R s:=by
 refine codeAny_loop rfl I (fun n s hI=>?_) n h
 show wpAny _ A ((compTurn (.ListComp elt [⟨target,iter,ifs,0⟩] scope pos) 0 it acc env).onRaise (fun x=>do noteFrame x env; theTreesLotGoes x)) _ _ s
 refine wpAny_noted ?_
 rw [compTurn_list]
 refine Za_ (wpAny_standAt (Za_ (wpAny_mono (turn n s hI) (fun r s₁ h₁=>?_) fun _ _ h'=>h'.elim)))
 cases r with
 | none=>exact Zb_ h₁
 | some v=>
  refine Za_ (wpAny_mono h₁ (fun _ s₁' h₁'=>?_) fun _ _ h'=>h'.elim)
  refine Za_ (wpAny_mono h₁' (fun _ s₂ h₂=>Za_ (wpAny_mono h₂ (fun ok s₃ h₃=>?_) fun _ _ h'=>h'.elim)) fun _ _ h'=>h'.elim)
  cases ok with
  | false=>exact Zb_ ⟨rfl,h₃⟩
  | true=>
   exact Za_ (Za_ (wpAny_mono h₃ (fun x s₄ h₄=>Za_ (wpAny_mono h₄ (fun _ s₅ h₅=>Zb_ (Zb_ ⟨rfl,h₅⟩)) fun _ _ h'=>h'.elim)) fun _ _ h'=>h'.elim))
end
noncomputable def PTs (X:Cx) (ifs:List Expr) (t:TT):Prop:=
 ∀(pins:List (Addr × Obj)) (s:Shared) (σ:St) (H:Hp) (Q:Bool->Hp->Prop),Inv X pins σ H s->t σ H Q->
  wpAny (model X.prog X.w) X.A (forIn ifs true fun c r=>if r=true then do let ok <-isTrue c X.env (eval c X.env); pure (ForInStep.yield ok) else pure (ForInStep.yield r)) (TP X pins σ Q) X.xe s
noncomputable def Ahq:TT:=fun _ H Q=>Q true H
theorem K5 {X:Cx}:PTs X [] Ahq:=fun _ _ _ H _ I h=>wpAny_tests_nil ⟨H,I,h⟩
theorem R1 {X:Cx} {c:Expr} {t:TT} (h:PT X c t):PTs X [c] t:=fun pins s σ H Q I q=>wpAny_tests_one (h pins s σ H Q I q)
section
variable {X:Cx} {pins:List (Addr × Obj)} {σ:St} {H:Hp} {s2:Shared} {tg iter elt:Expr} {ifs:List Expr} {sc:Scope} {pos:Pos} {xs:List Str} {g:TG} {tc:TT} {te:TE} {J:It} {fp:List Addr} {it:Addr} {tn:Nat->Heap->Prop}
theorem HOk.adopt {P:Program} {w:World} {H:Hp} {h:Heap} {a:Addr} {xs:List V} {its:List Value} {n:Nat} (x:HOk P w H h) (hn:H a=none) (hz:xs.length<=sizeLine) (r:Vals xs its) (e:h.get? a=some { cls:=.type "list",data:=.seq its.toArray n }) :
  HOk P w (upd H a (.lst xs)) h:=fun b u q=>by
 by_cases hb:b=a
 ·subst hb; rw [A3] at q; cases q; exact ⟨hz,its,n,r,e⟩
 ·rw [C6 hb] at q
  exact (x b u q).stay (fun c v _ q=>q) (fun c q=>by rw [C6 (C7 q hn)]; exact q) fun c xs q=>by rw [C6 (C7 q hn)]; exact q
theorem Ta {X':Cx} {RR:Value->Addr->Result->Shared->Prop} {kk tk:Nat} {H3 h₁:Heap} (hg':PG X' tg g) (ht':PTs X' ifs tc) (he':PE X' elt te)
  (I:Inv X pins σ H s2) (T:Turn X.prog X.w X.K tg J fp it tn) (st:tn 0 s2.heap) (f2:∀b∈fp,FpOk X pins H b)
  (W:Nat->Nat->List V->Hp->Prop) (w0:∃m,W 0 m [] H) (F:List V->Hp->Prop)
  (turn:∀i m acc H,W i m acc H->(J.stop i H/\acc.length<=sizeLine/\F acc H)\/
   (J.go i H/\acc.length < sizeLine/\∃N:List V->Hp->Prop,(∀acc' H',N acc' H'->∃m',m' < m/\W (i + 1) m' acc' H')/\∀x H',J.yld i H x H'->g x (List.replicate kk none++σ) H' fun σ2 H2=>σ2.drop kk=σ/\tc σ2 H2 fun c H3=>
    if c=true then te σ2 H3 fun y H4=>N (acc++[y]) H4 else N acc H3))
  (fin:∀D C s' acc H',(∃m,s'.heap.Ns C m)->FpOk X pins (upd H' D (.lst acc)) C->F acc H'->H' D=none->Inv X pins σ (upd H' D (.lst acc)) s'->RR (.ref D) C (.ok .next) s')
  (hH3:s2.heap.push { cls:=.type "list",dict:=none,data:=.seq ([]:List Value).toArray }=H3) (k1:∀b o,H3.get? b=some o->h₁.get? b=some o)
  (I4:Inv X pins σ H { s2 with heap:=H3 }->(∀b∈(s2.heap.objs.size :: fp),b < H3.objs.size/\b∉frs X.stack/\(∀x c,X.env.cells.lookup x=some c->c≠b)/\X.base.get? b=none)->Inv X' [] (List.replicate kk none++σ) H { s2 with heap:=h₁,toks:=tk })
  (cell1:∀x c,X'.env.cells.lookup x=some c->c=H3.objs.size + 1\/X.env.cells.lookup x=some c)
  (eX:X'.ex=s2.heap.objs.size :: fp/\X'.env.locals=H3.objs.size/\X'.fs=frs X.stack/\X'.pn=[]/\X'.prog=X.prog/\X'.w=X.w/\X'.K=X.K/\X'.calm=true/\X'.A=X.A/\(X'.xe=fun _ _=>False)/\X'.s₀.heap=H3/\X'.H₀=H/\X'.s₀.os=s2.os) :
  codeAny (model X.prog X.w) X.A (.compStart (.ListComp elt [⟨tg,iter,ifs,0⟩] sc pos) 0 (.ref it) (.ref s2.heap.objs.size) X'.env) (RR (.ref s2.heap.objs.size) H3.objs.size) { s2 with heap:=h₁,toks:=tk }:=by
 obtain ⟨eXex,eXloc,eXfs,eXpn,eP,ew,eK,ec,eA,exe,hs0,hH0,hos⟩:=eX
 have hC:H3.objs.size=s2.heap.objs.size + 1:=by rw [<-hH3,Heap.size_push]
 have hDC:s2.heap.objs.size≠H3.objs.size:=by rw [hC]; exact Zs_ (Nat.lt_succ_self _)
 have old3:∀b o,s2.heap.get? b=some o->H3.get? b=some o:=fun b o e=>hH3 ▸ Zc_ _ e
 have fpLt:∀b∈fp,b < s2.heap.objs.size:=fun b hb=>by
  obtain ⟨o,e,_⟩:=T.obj _ _ st b hb
  exact Zn_ e
 have hnofr:∀b,s2.heap.objs.size<=b->b∉frs X.stack:=fun b hb z=>by
  rcases Zg_.mp (I.stkSub b z) with q | q
  ·exact absurd (Zq_ I.lt hb) (by rw [q]; exact Nat.lt_irrefl _)
  ·exact I.nofs hb q
 have hnocell:∀b,s2.heap.objs.size<=b->∀x c,X.env.cells.lookup x=some c->c≠b:=fun b hb x c e z=>by
  obtain ⟨v,q⟩:=I.cell x c e
  exact absurd (Zq_ q.lt (by rw [z]; exact hb)) (Nat.lt_irrefl _)
 have hnobase:∀b,s2.heap.objs.size<=b->X.base.get? b=none:=fun b hb=>Heap.get?_none_of_le (Zo_ (Zo_ I.ok.bsz I.sz) hb)
 have fpfr:∀b∈fp,b∉frs X.stack:=fun b hb z=>by
  rcases Zg_.mp (I.stkSub b z) with q | q
  ·exact (f2 b hb).2.1 q
  ·exact (f2 b hb).2.2.1 q
 have fpbase:∀b∈fp,X.base.get? b=none:=fun b hb=>by
  rcases (f2 b hb).2.2.2.1 with z | z
  ·cases e:X.base.get? b with
   | none=>rfl
   | some o=>exact absurd z (I.ok.noex b o e)
  ·exact Heap.get?_none_of_le (Zo_ I.ok.bsz z)
 have hex:∀b∈(s2.heap.objs.size :: fp),b < H3.objs.size/\b∉frs X.stack/\(∀x c,X.env.cells.lookup x=some c->c≠b)/\X.base.get? b=none:=fun b hb=>by
  rcases Zg_.mp hb with z | z
  ·subst z
   exact ⟨by rw [hC]; exact Nat.lt_succ_self _,hnofr _ (Zd_ _),hnocell _ (Zd_ _),hnobase _ (Zd_ _)⟩
  ·exact ⟨by rw [hC]; exact Nat.lt_succ_of_lt (fpLt b z),fpfr b z,(f2 b z).2.2.2.2.1,fpbase b z⟩
 have I4:=I4 (I.kept old3) hex
 have hDn:H s2.heap.objs.size=none:=I.hok.fresh (Zd_ _)
 have hDobj:h₁.get? s2.heap.objs.size=some { cls:=.type "list",data:=.seq (([]:List Value)).toArray 0 }:=k1 _ _ (hH3 ▸ Zm_ _ rfl)
 have st1:tn 0 h₁:=T.keep _ _ _ st fun b _ o e=>k1 b o (old3 b o e)
 obtain ⟨m0,w0⟩:=w0
 have loop:∀s₃:Shared,s₃={ s2 with heap:=h₁,toks:=tk }->
   codeAny (model X.prog X.w) X.A (.compLoop (.ListComp elt [⟨tg,iter,ifs,0⟩] sc pos) 0 (.ref it) (.ref s2.heap.objs.size) X'.env) (RR (.ref s2.heap.objs.size) H3.objs.size) s₃:=by
  rintro s₃ rfl
  refine Ll (fun n s'=>∃i acc its k H',Inv X' [] (List.replicate kk none++σ) H' s'/\tn i s'.heap/\(∀b∈fp,H' b=none)/\H' s2.heap.objs.size=none/\Vals acc its/\
   s'.heap.get? s2.heap.objs.size=some { cls:=.type "list",data:=.seq its.toArray k }/\W i n acc H') ?_ m0
   ⟨0,[],[],0,H,I4,st1,fun b hb=>(f2 b hb).1,hDn,.nil,hDobj,w0⟩
  rintro n s' ⟨i,acc,its,k,H',I',st',fr',hD',rv,hobj,w'⟩
  have fpok:∀{o:Obj} {H'':Hp},(∀b∈fp,H'' b=none)->∀b∈fp,FpOk X' [(s2.heap.objs.size,o)] H'' b:=fun {o H''} hn b hb=>by
   refine ⟨hn b hb,by rw [eXloc,hC]; exact Zs_ (Nat.lt_succ_of_lt (fpLt b hb)),by rw [eXfs]; exact fpfr b hb,.inl (by rw [eXex]; exact Θd _ hb),fun x c e=>?_,fun p hp=>?_⟩
   ·rcases cell1 x c e with z | z
    ·rw [z,hC]
     exact Nat.ne_of_gt (Nat.lt_succ_of_lt (Nat.lt_succ_of_lt (fpLt b hb)))
    ·exact (f2 b hb).2.2.2.2.1 x c z
   ·rw [eXpn] at hp
    have:p=(s2.heap.objs.size,o):=by simpa using hp
    rw [this]
    exact Nat.ne_of_gt (fpLt b hb)
  have pinD:∀{H'':Hp} {s'':Shared} {σ'':St} {o:Obj},Inv X' [] σ'' H'' s''->s''.heap.get? s2.heap.objs.size=some o->(∀v,o.data≠.cell v)->H'' s2.heap.objs.size=none->Inv X' [(s2.heap.objs.size,o)] σ'' H'' s'':=fun {H'' s'' σ'' o} J e d hn=>
   J.pins_of fun p hp=>by
    have:p=(s2.heap.objs.size,o):=by simpa using hp
    rw [this]
    exact ⟨e,hn,by rw [eXloc]; exact hDC,by rw [eXfs]; exact hnofr _ (Zd_ _),d⟩
  have J:=pinD I' hobj (fun v=>by intro z; cases z) hD'
  rw [<-eP,<-ew,<-eA]
  rcases turn i n acc H' w' with ⟨stop,hz,hF⟩ | ⟨go,hz,N,hN,step⟩
  ·have q1:wpAny (model X'.prog X'.w) X'.A (pyNext (.ref it)) (fun r s1=>r=none/\Inv X' [(s2.heap.objs.size,{ cls:=.type "list",data:=.seq its.toArray k })] (List.replicate kk none++σ) H' s1) (fun _ _=>False) s':=by
    have:=T.done X' eP ew eK ec i _ s' _ H' (fun _ _=>False) J (fpok fr') st' stop
    rw [eP,ew]; exact this
   refine thn q1 fun r s1 h1=>?_
   obtain ⟨hr,J1⟩:=h1
   subst hr
   have e1:=J1.pin (s2.heap.objs.size,{ cls:=.type "list",data:=.seq its.toArray k }) (Zh_ _ Θc)
   have un:Un (frs X.stack) (s2.heap.objs.size :: fp) H H' H3 s1.heap:=by
    have:=J1.base
    rw [eXfs,eXex,hH0,hs0] at this
    exact this
   have hok1:HOk X.prog X.w H' s1.heap:=by have:=J1.hok; rw [eP,ew] at this; exact this
   obtain ⟨mC,hmC,_⟩:=J1.loc
   have hmC':s1.heap.Ns H3.objs.size mC:=by rw [eXloc] at hmC; exact hmC
   have hCfree:H' H3.objs.size=none:=by have:=J1.free; rw [eXloc] at this; exact this
   refine fin _ _ s1 acc H' ⟨mC,hmC'⟩ ?_ hF e1.2.1 ?_
   ·refine I.fpOk (by rw [hC]; exact Nat.le_succ _) ?_
    rw [C6 (Ne.symm hDC)]
    exact hCfree
   ·refine I.call' (ch:=fp) (J1.os.trans hos) ?_ (hok1.adopt e1.2.1 hz rv e1.1) J1.bare fun b hb=>⟨(f2 b hb).2.2.2.1,(f2 b hb).2.1,(f2 b hb).2.2.2.2.1,(f2 b hb).2.2.2.2.2⟩
    have below:∀b o,s2.heap.get? b=some o->b≠s2.heap.objs.size:=fun b o e=>Zs_ (Zn_ e)
    have nin:∀b o,s2.heap.get? b=some o->b∉fp->b∉s2.heap.objs.size :: fp:=fun b o e hb z=>(Zg_.mp z).elim (below b o e) hb
    have trkne:∀b u,H b=some u->b≠s2.heap.objs.size:=fun b u e z=>by rw [z,hDn] at e; cases e
    refine ⟨fun b o e n hf hb=>un.keep b o (old3 b o e) n hf (nin b o e hb),fun b o e n hf hb=>un.slot b o (old3 b o e) n hf (nin b o e hb),fun b o e n hb=>?_,fun b o e hb=>un.there b o (old3 b o e) (nin b o e hb),fun b ys e=>?_,fun b o u e=>?_,fun b ps e=>?_⟩
    ·rw [C6 (below b o e)]; exact un.free b o (old3 b o e) n (nin b o e hb)
    ·rw [C6 (trkne b _ e)]; exact un.tups b ys e
    ·rw [C6 (trkne b _ e)]; exact un.frzs b o u e
    ·rw [C6 (trkne b _ e)]; exact un.tbls b ps e
  ·have q1:=T.item X' eP ew eK ec i _ s' _ H' (fun _ _=>False) J (fpok fr') st' go
   rw [<-eP,<-ew] at q1
   have q2:=q1
   refine thn q2 fun r s1 h1=>?_
   obtain ⟨u,hr,h4⟩:=h1
   subst hr
   dsimp only
   refine thn h4 fun _ s5 ⟨x,H5,J5,r5,y5,st5,fr5⟩=>?_
   have J5':=J5.pinned (fpok fr5) (T.obj _ _ st5)
   have q5:=hg' _ s5 _ H5 x u _ J5' r5 (step x H5 y5)
   rw [exe] at q5
   refine thn q5 fun _ s6 ⟨σ6,H6,J6,hσ,q6⟩=>?_
   have q7:=ht' _ s6 σ6 H6 _ J6 q6
   rw [exe] at q7
   refine thn q7 fun ok s7 ⟨H7,J7,q7⟩=>?_
   have lenσ:∀{H8:Hp} {s8:Shared} {pl:List (Addr × Obj)},Inv X' pl σ6 H8 s8->(List.replicate kk none++σ).length=σ6.length:=fun {H8 s8 pl} J8=>J6.len.symm ▸ I4.len
   have weak:∀{H8:Hp} {s8:Shared} {pl:List (Addr × Obj)},Inv X' pl σ6 H8 s8->Inv X' pl (List.replicate kk none++σ) H8 s8:=fun {H8 s8 pl} J8=>by
    refine J8.weak (lenσ J8) fun j v e=>?_
    by_cases hj:j < kk
    ·rw [List.getElem?_append_left (by simpa using hj),List.getElem?_replicate,if_pos hj] at e
     cases e
    ·have hj':kk<=j:=Nat.le_of_not_lt hj
     rw [List.getElem?_append_right (by simpa using hj'),List.length_replicate,<-hσ,List.getElem?_drop] at e
     rw [<-e]
     congr 1
     omega
   have back:∀{H8:Hp} {s8:Shared},Inv X' ([(s2.heap.objs.size,{ cls:=.type "list",data:=.seq its.toArray k })]++Gb fp s5.heap) σ6 H8 s8->
     Inv X' [] (List.replicate kk none++σ) H8 s8/\tn (i + 1) s8.heap/\(∀b∈fp,H8 b=none)/\H8 s2.heap.objs.size=none/\s8.heap.get? s2.heap.objs.size=some { cls:=.type "list",data:=.seq its.toArray k }:=fun {H8 s8} J8=>by
    have eD:=J8.pin (s2.heap.objs.size,{ cls:=.type "list",data:=.seq its.toArray k }) (Zh_ _ (Zt_ _ Θc))
    refine ⟨(weak J8).pins_of fun p hp=>absurd hp (by simp),T.keep _ _ _ st5 fun b hb o e=>(J8.pin (b,o) (List.mem_append_right _ (List.mem_append_right _ (V7 hb e)))).1,fun b hb=>?_,eD.2.1,eD.1⟩
    obtain ⟨o,e,d⟩:=T.obj _ _ st5 b hb
    exact (J8.pin (b,o) (Zh_ _ (Zh_ _ (V7 hb e)))).2.1
   cases ok with
   | false=>
    simp only [Bool.false_eq_true,if_false] at q7 ⊢
    obtain ⟨m',hm,w7⟩:=hN _ _ q7
    obtain ⟨a1,a2,a3,a4,a5⟩:=back J7
    exact ⟨m',hm,i + 1,acc,its,k,H7,a1,a2,a3,a4,rv,a5,w7⟩
   | true=>
    simp only [if_true] at q7 ⊢
    have q8:=he' _ s7 σ6 H7 _ J7 q7
    rw [exe] at q8
    refine thn q8 fun u8 s8 ⟨y,H8,J8,r8,q9⟩=>?_
    obtain ⟨m',hm,w8⟩:=hN _ _ q9
    obtain ⟨a1,a2,a3,a4,a5⟩:=back J8
    have hits:its.length=acc.length:=rv.length.symm
    refine wpAny_list_append_plain (hsz:=by show its.toArray.size<=sizeLine; rw [Zx_,hits]; exact Nat.le_of_lt hz) ⟨k,a5⟩ fun h9 hl9 hs9=>?_
    obtain ⟨k9,e9⟩:=hl9
    refine ⟨m',hm,i + 1,acc++[y],its++[u8],k9,H8,?_,?_,a3,a4,rv.append (.cons r8 .nil),?_,w8⟩
    ·exact a1.turned (t':=s8.toks) (fun b o hb e=>hs9.extBut b o hb e) a4 (by rw [eXloc]; exact hDC) (.inl (by rw [eXex]; exact Θc)) (fun x c e=>by
      rcases cell1 x c e with z | z
      ·rw [z,hC]; exact Nat.ne_of_gt (Nat.lt_succ_of_lt (Nat.lt_succ_self _))
      ·exact hnocell _ (Nat.le_refl _) x c z) (fun p hp=>by rw [eXpn] at hp; simp at hp)
    ·exact T.keep _ _ _ a2 fun b hb o e=>hs9.extBut b o (Zs_ (fpLt b hb)) e
    ·rw [e9]
     congr 2
     simp
 exact codeAny_compStart_list (loop _ rfl) (T.self X.A 0 _ _ _ st1 (loop _ rfl))
theorem Hn {E:Value->Shared->Prop} {RR:Value->Addr->Result->Shared->Prop} (S:CScope X xs sc) (hcalm:X.calm=true)
  (hg:∀ex s3 H3,PG (cxC X xs sc ex s3 H3) tg g) (ht:∀ex s3 H3,PTs (cxC X xs sc ex s3 H3) ifs tc) (he:∀ex s3 H3,PE (cxC X xs sc ex s3 H3) elt te)
  (I:Inv X pins σ H s2) (T:Turn X.prog X.w X.K tg J fp it tn) (st:tn 0 s2.heap) (f2:∀b∈fp,FpOk X pins H b)
  (W:Nat->Nat->List V->Hp->Prop) (w0:∃m,W 0 m [] H) (F:List V->Hp->Prop)
  (turn:∀i m acc H,W i m acc H->(J.stop i H/\acc.length<=sizeLine/\F acc H)\/
   (J.go i H/\acc.length < sizeLine/\∃N:List V->Hp->Prop,(∀acc' H',N acc' H'->∃m',m' < m/\W (i + 1) m' acc' H')/\∀x H',J.yld i H x H'->g x (List.replicate xs.length none++σ) H' fun σ2 H2=>σ2.drop xs.length=σ/\tc σ2 H2 fun c H3=>
    if c=true then te σ2 H3 fun y H4=>N (acc++[y]) H4 else N acc H3))
  (fin:∀D C s' acc H',(∃m,s'.heap.Ns C m)->FpOk X pins (upd H' D (.lst acc)) C->F acc H'->H' D=none->Inv X pins σ (upd H' D (.lst acc)) s'->RR (.ref D) C (.ok .next) s') :
  wpAny (model X.prog X.w) X.A (newList []) (fun acc s3=>wpAny (model X.prog X.w) X.A (newFunctionEnv sc X.env.globals (clF X.env.cells sc.names []) [] X.env.qual none .none (some X.env)) (fun cenv s4=>
   codeAny (model X.prog X.w) X.A (.compStart (.ListComp elt [⟨tg,iter,ifs,0⟩] sc pos) 0 (.ref it) acc { cenv with scope:=relabel sc X.env }) (RR acc cenv.locals) s4) E s3) E s2:=by
 refine wpAny_newObj_type (wpAny_newFunctionEnv S.nocell (by intro y hy; simp at hy) (fun h₁ hns₁ hsb₁=>?_) S.kind)
 dsimp only at hns₁ hsb₁ ⊢
 generalize hH3:s2.heap.push { cls:=.type "list",dict:=none,data:=.seq ([]:List Value).toArray }=H3 at hns₁ hsb₁ ⊢
 have k1:∀b o,H3.get? b=some o->h₁.get? b=some o:=fun b o e=>hsb₁.extBut b o (Zs_ (Zn_ e)) (Zc_ _ e)
 exact Ta (X':=cxC X xs sc (s2.heap.objs.size :: fp) { s2 with heap:=H3 } H) (hg _ _ _) (ht _ _ _) (he _ _ _) I T st f2 W w0 F turn fin hH3 k1 (fun I3 hex=>Ws S I3 hex hns₁ k1) (fun x c e=>.inr (O6 e).1) ⟨rfl,rfl,rfl,rfl,rfl,rfl,rfl,hcalm,rfl,rfl,rfl,rfl,rfl⟩
end
noncomputable def LCW (n:Nat) (J:It) (g:TG) (tc:TT) (te:TE) (σ:St) (H1:Hp) (F:List V->Hp->Prop):Prop:=
 ∃W:Nat->Nat->List V->Hp->Prop,(∃m,W 0 m [] H1)/\∀i m acc H,W i m acc H->(J.stop i H/\acc.length<=sizeLine/\F acc H)\/
  (J.go i H/\acc.length < sizeLine/\∃N:List V->Hp->Prop,(∀acc' H',N acc' H'->∃m',m' < m/\W (i + 1) m' acc' H')/\∀x H',J.yld i H x H'->g x (List.replicate n none++σ) H' fun σ2 H2=>σ2.drop n=σ/\tc σ2 H2 fun c H3=>
   if c=true then te σ2 H3 fun y H4=>N (acc++[y]) H4 else N acc H3)
noncomputable def tLC (n:Nat) (wi:TI) (g:TG) (tc:TT) (te:TE):TE:=fun σ H Q=>wi σ H fun J H1=>LCW n J g tc te σ H1 fun acc H=>∀p,H p=none->Q (.ref p) (upd H p (.lst acc))
section
variable {X:Cx} {tg iter elt:Expr} {ifs:List Expr} {sc:Scope} {pos:Pos} {xs:List Str} {wi:TI} {g:TG} {tc:TT} {te:TE}
theorem FpOk.turn {pins:List (Addr × Obj)} {σ:St} {H:Hp} {s:Shared} {C:Addr} {h':Heap} (f:FpOk X pins H C) (I:Inv X pins σ H s) (hs:Heap.SameBut C s.heap h'):Inv X pins σ H { s with heap:=h' }:=
 I.turned (t':=s.toks) (fun b o hb e=>hs.extBut b o hb e) f.1 f.2.1 f.2.2.2.1 f.2.2.2.2.1 f.2.2.2.2.2
theorem K0 (S:CScope X xs sc) (hc:X.calm=true) (hi:PI X tg iter wi) (hg:∀ex s3 H3,PG (cxC X xs sc ex s3 H3) tg g) (ht:∀ex s3 H3,PTs (cxC X xs sc ex s3 H3) ifs tc) (he:∀ex s3 H3,PE (cxC X xs sc ex s3 H3) elt te)
  (hs:∀x,foldedSetIterable iter X.env x=pure x:=by intro _; rfl):PE X (.ListComp elt [⟨tg,iter,ifs,0⟩] sc pos) (tLC xs.length wi g tc te):=by
 intro pins s σ H Q I h
 rw [eval_ListComp]
 refine wpAny_comprehension_free (use:=none) rfl hs (Fi (S.cells I.ok)) S.kind S.names (thn (hi pins s σ H _ I h) fun v s1 h1=>thn h1 fun itv s2 h2=>?_)
 obtain ⟨it,fp,tn,J,H2,e,I2,T,st2,f2,W,w0,turn⟩:=h2
 subst e
 refine Hn (RR:=fun acc C=>compPost (model X.prog X.w) X.A X.xe none (EP X pins σ Q) acc C) S hc hg ht he I2 T st2 f2 W w0 _ turn fun D C s' acc H' hns fC hF hD IF=>?_
 obtain ⟨m,hm⟩:=hns
 exact ⟨m,hm,fun h' hs'=>⟨.ref D,_,fC.turn IF hs',rfl,hF D hD⟩⟩
theorem S8 {i:Nat} {y:Str} {pos' spos:Pos} (S:CScope X xs sc) (hc:X.calm=true) (hN:X.N.Nodup) (hy:X.N[i]? = some y) (hk:X.env.scope.names.lookup y=some .local)
  (hi:PI X tg iter wi) (hg:∀ex s3 H3,PG (cxC X xs sc ex s3 H3) tg g) (ht:∀ex s3 H3,PTs (cxC X xs sc ex s3 H3) ifs tc) (he:∀ex s3 H3,PE (cxC X xs sc ex s3 H3) elt te)
  (hsw:swapsWith (.ListComp elt [⟨tg,iter,ifs,0⟩] sc pos) (some (.Name y pos')) spos.line X.env=pure true:=by rfl)
  (hs:∀x,foldedSetIterable iter X.env x=pure x:=by intro _; rfl):PS X (.Assign [.Name y pos'] (.ListComp elt [⟨tg,iter,ifs,0⟩] sc pos) spos) (Ae4 (tLC xs.length wi g tc te) (Wk i)):=by
 intro pins s σ H D I h
 rw [exec_Assign_Name_used _ _ _ _ hsw]
 refine Za_ (wpAny_standAt (Za_ ?_))
 show wpAny _ X.A (do let _ <-comprehension (.ListComp elt [⟨tg,iter,ifs,0⟩] sc pos) sc X.env _ (newList []) false (eval iter X.env) (some (assign (.Name y pos') X.env))) _ _ s
 refine Za_ (wpAny_mono (wpAny_comprehension_free (use:=some (assign (.Name y pos') X.env)) (Q:=fun _ s'=>SP X pins D .next s') rfl hs (Fi (S.cells I.ok)) S.kind S.names
  (thn (hi pins s σ H _ I h) fun v s1 h1=>thn h1 fun itv s2 h2=>?_)) (fun _ s' hq=>Zb_ (Zb_ hq)) fun _ _ e=>e)
 obtain ⟨it,fp,tn,J,H2,e,I2,T,st2,f2,W,w0,turn⟩:=h2
 subst e
 refine Hn (RR:=fun acc C=>compPost (model X.prog X.w) X.A X.xe (some (assign (.Name y pos') X.env)) (fun _ s'=>SP X pins D .next s') acc C) S hc hg ht he I2 T st2 f2 W w0 _ turn fun D' C s' acc H' hns fC hF hD IF=>?_
 obtain ⟨m,hm⟩:=hns
 refine wpAny_assign_Name (Ja (v:=.ref D') IF hN hy (.inl hk) rfl (fun s'' I'' hsb=>?_) (.inr hk))
 obtain ⟨a,hsb,ha⟩:=hsb
 have hne:C≠a:=by
  rcases ha with z | z
  ·rw [z]; exact fC.2.1
  ·exact fun q=>fC.2.2.2.2.1 y a z q.symm
 refine ⟨m,hm.sameBut hsb hne,fun h' hs'=>⟨_,_,fC.turn I'' hs',hF D' hD⟩⟩
end
theorem L6 {K:Θf} {a:Addr} {xs:List V} {n:Nat} {g:TG} {tc:TT} {te:TE} {σ:St} {H:Hp} {F:List V->Hp->Prop} (Pv:Nat->List V->Hp->Prop) (hn:xs.length<=1000000) (h0:Pv 0 [] H)
  (hl:∀i acc H,i<=xs.length->Pv i acc H->SqL K H a xs/\acc.length<=i)
  (hs:∀i x acc H,xs[i]? = some x->Pv i acc H->g x (List.replicate n none++σ) H fun σ2 H2=>σ2.drop n=σ/\tc σ2 H2 fun c H3=>if c=true then te σ2 H3 fun y H4=>Pv (i + 1) (acc++[y]) H4 else Pv (i + 1) acc H3)
  (hd:∀acc H,Pv xs.length acc H->F acc H):LCW n (Itl K a) g tc te σ H F:=by
 have sz:(1000000:Nat) < sizeLine:=by rw [sizeLine_eq]; decide
 refine ⟨fun i m acc H=>m=xs.length - i/\i<=xs.length/\Pv i acc H,⟨xs.length,by simp,Nat.zero_le _,h0⟩,?_⟩
 rintro i m acc H ⟨rfl,hi,p⟩
 have q:=hl i acc H hi p
 by_cases hlt:i < xs.length
 ·refine .inr ⟨⟨xs,xs[i],q.1,by simp [hlt]⟩,by omega,Pv (i + 1),fun acc' H' p'=>⟨xs.length - (i + 1),by omega,rfl,hlt,p'⟩,fun x H' y=>?_⟩
  obtain ⟨e,y⟩:=y
  subst e
  exact hs i x acc _ (y xs q.1) p
 ·have e:i=xs.length:=by omega
  subst e
  exact .inl ⟨⟨xs,q.1,Zd_ _⟩,by omega,hd acc H p⟩
theorem Lw {lo:Int} {k:Nat} {n:Nat} {g:TG} {tc:TT} {te:TE} {σ:St} {H:Hp} {F:List V->Hp->Prop} (Pv:Nat->List V->Hp->Prop) (hn:k<=1000000) (h0:Pv 0 [] H)
  (hl:∀i acc H,i<=k->Pv i acc H->acc.length<=i)
  (hs:∀i acc H,i < k->Pv i acc H->g (.int (lo + i)) (List.replicate n none++σ) H fun σ2 H2=>σ2.drop n=σ/\tc σ2 H2 fun c H3=>if c=true then te σ2 H3 fun y H4=>Pv (i + 1) (acc++[y]) H4 else Pv (i + 1) acc H3)
  (hd:∀acc H,Pv k acc H->F acc H):LCW n (Itr lo k) g tc te σ H F:=by
 have sz:(1000000:Nat) < sizeLine:=by rw [sizeLine_eq]; decide
 refine ⟨fun i m acc H=>m=k - i/\i<=k/\Pv i acc H,⟨k,by simp,Nat.zero_le _,h0⟩,?_⟩
 rintro i m acc H ⟨rfl,hi,p⟩
 have q:=hl i acc H hi p
 by_cases hlt:i < k
 ·refine .inr ⟨hlt,by omega,Pv (i + 1),fun acc' H' p'=>⟨k - (i + 1),by omega,rfl,hlt,p'⟩,fun x H' y=>?_⟩
  obtain ⟨e,y⟩:=y
  subst e y
  exact hs i acc _ hlt p
 ·have e:i=k:=by omega
  subst e
  exact .inl ⟨Zd_ _,by omega,hd acc H p⟩
section
variable {prog:Program} {w:World} {A:Around} {E:Value->Shared->Prop} {s:Shared}
end
section
variable {X:Cx} {pos:Pos}
theorem Li:Q6 X (.builtin "isinstance") (fun xs H Q=>∃x n t b,xs=[x,.ty n]/\TyOf X.K H x t/\PySem.W.kitOne X.K t (.type n)=some b/\Q (.bl b) H):=by
 intro pins s σ H xs us Q I r h
 obtain ⟨x,n,t,b,rfl,ty,e,q⟩:=h
 obtain ⟨u,v,rfl,rx,ry⟩:=Ac6 r
 obtain rfl:v=Value.type n:=ry
 exact Tg I rx ty e fun tk=>⟨.bl b,H,I.tok tk,rfl,q⟩
theorem Tn:MtR X "int.bit_length" (fun x xs H Q=>∃i,x = .int i/\xs=[]/\Q (.int ((Builtin.Int.intBits i:Nat):Int)) H):=by
 intro pins s σ H x xs v us Q I rx rs h
 obtain ⟨i,rfl,rfl,q⟩:=h
 obtain ⟨t,rfl⟩:=rx
 cases rs
 exact call_int_bit_length ⟨.int _,H,I.tok _,⟨_,rfl⟩,q⟩
noncomputable def Af8 (K:Θf) (neg:Bool):R2:=fun x y H Q=>∃(a b:Addr) (ns ms:List Int),x = .ref a/\y = .ref b/\SqL K H a (ns.map V.int)/\SqL K H b (ms.map V.int)/\Q (.bl (if neg then !decide (ns=ms) else decide (ns=ms))) H
theorem Aed (hu:X.A.units + 64 < cLine):OpR X (compareOp .NotEq) (Af8 X.K true):=by
 intro pins s σ H x y v u Q I rx ry h
 obtain ⟨a,b,ns,ms,rfl,rfl,h1,h2,q⟩:=h
 cases rx; cases ry
 obtain ⟨its,rv,pl,_⟩:=I.list h1
 obtain ⟨its',rv',pl',_⟩:=I.list h2
 exact PySem.W.ne_intsK pl.isList (Ai rv) pl'.isList (Ai rv') hu ⟨.bl _,H,I,rfl,q⟩
end
noncomputable def But (st:Addr) (H H':Hp):Prop:=∀b o,H b=some o->b≠st->H' b=some o
theorem But.refl (st:Addr) (H:Hp):But st H H:=fun _ _ h _=>h
theorem Same.new {H:Hp} {p:Addr} {o:HO} (h:H p=none):Same H (upd H p o):=fun b u e=>by rw [C6 (C7 e h)]; exact e
theorem Xk {x:Int} {n:Nat} (h0:0<=x) (h1:x < (n:Int)):∃r:Nat,x=(r:Int)/\r < n:=⟨x.toNat,by omega,by omega⟩
theorem Ahb (m:Nat):(1:Int) * 2 ^ (m:Int).toNat=((2 ^ m:Nat):Int):=by simp
theorem Afo {m:Nat} (h:m<=1000):Afg 1 (m:Int):=⟨by omega,by omega,by decide⟩
theorem Ac (a b:Nat):Builtin.bitAnd (a:Int) (b:Int)=((a&&&b:Nat):Int):=by
 simp [Builtin.bitAnd]
theorem Fe (x:Int):Builtin.bitNot (Builtin.bitNot x)=x:=by unfold Builtin.bitNot; omega
theorem Su (a b:Nat):Builtin.bitOr (a:Int) (b:Int)=((a|||b:Nat):Int):=by
 have ha:¬0<=Builtin.bitNot (a:Int):=by unfold Builtin.bitNot; omega
 have hb:¬0<=Builtin.bitNot (b:Int):=by unfold Builtin.bitNot; omega
 unfold Builtin.bitOr
 simp only [Builtin.bitAnd,ha,hb,decide_false,Fe,Int.toNat_natCast]
theorem Y0 (k:Nat):((2:Int) ^ k)=((2 ^ k:Nat):Int):=by simp
noncomputable def Afp (N xs:List Str) (osc sc:Scope):Bool:=
 decide (sc.kind = .function) && sc.names.all (fun y=>decide (y.2≠.cell)) && sc.names.all (fun y=>decide (y.2≠.local) || decide (sc.names.lookup y.1=some .local)) && xs.all (fun x=>decide (sc.names.lookup x=some .local)) &&
  N.all (fun y=>decide (sc.names.lookup y≠some .local)) && sc.names.all (fun y=>decide (y.2≠.free) || (decide (osc.names.lookup y.1=some .cell) || decide (osc.names.lookup y.1=some .free))) && decide ((xs++N).Nodup)
theorem cs {X:Cx} {xs:List Str} {sc:Scope} (N:List Str) (osc:Scope) (hN:X.N=N) (ho:X.env.scope=osc) (h:Afp N xs osc sc=true):CScope X xs sc:=by
 unfold Afp at h
 simp only [Bool.and_eq_true,List.all_eq_true,decide_eq_true_eq,Bool.or_eq_true] at h
 obtain ⟨⟨⟨⟨⟨⟨h1,h2⟩,h3⟩,h4⟩,h5⟩,h6⟩,h7⟩:=h
 refine ⟨h1,h2,fun y hy e=>?_,h4,by rw [hN]; exact h5,fun y hy e=>?_,by rw [hN]; exact h7⟩
 ·rcases h3 y hy with z | z
  ·exact absurd e z
  ·exact z
 ·rcases h6 y hy with z | z
  ·exact absurd e z
  ·show X.env.scope.names.lookup y.1=_\/X.env.scope.names.lookup y.1=_
   rw [ho]; exact z
theorem Xg (x:Int) {m:Int} (h:0 < m):0<=x % m:=Int.emod_nonneg _ (by omega)
theorem Xf (x:Int) {m:Int} (h:0 < m):x % m < m:=Int.emod_lt_of_pos _ h
noncomputable def vN (k:Nat):V:=V.int (k:Int)
noncomputable def Jn (a k:Nat):Bool:=decide (a / 2 ^ k % 2=1)
noncomputable def Ff (a:Nat):Nat:=Builtin.Int.intBits (a:Int)
noncomputable def D4 (a:Nat):List Nat:=(List.range (Ff a)).filter (Jn a)
theorem Ep (l:List Nat):(l.map fun (k:Nat)=>(k:Int)).map V.int=l.map vN:=by rw [List.map_map]; rfl
theorem Lh {a:Nat} (h:a < 2 ^ 20):Ff a<=20:=by
 unfold Ff Builtin.Int.intBits
 split
 ·omega
 ·rename_i z
  have h0:a≠0:=by intro e; subst e; exact z rfl
  have:a.log2 < 20:=(Nat.log2_lt h0).mpr h
  show (a:Int).natAbs.log2 + 1<=20
  rw [Int.natAbs_natCast]
  omega
theorem Jk (a b:Nat):decide (V.int (a:Int)=V.int (b:Int))=decide (a=b):=by
 rw [Ei,Bool.eq_iff_iff,beq_iff_eq,decide_eq_true_iff]
 exact Int.ofNat_inj
noncomputable def Ac2:Sp:=fun vs H Q _=>∃a k:Nat,vs=[vN a,vN k]/\Q (.bl (Jn a k)) H
noncomputable def Gp:Sp:=fun vs H Q _=>∃a:Nat,vs=[vN a]/\a < 2 ^ 20/\∀p,H p=none->Q (.ref p) (upd H p (.lst ((D4 a).map vN)))
noncomputable def Bx:Sp:=fun vs H Q _=>∃m:Nat,vs=[vN m]/\m<=1000/\Q (vN (2 ^ m - 1)) H
theorem Ado (a k:Nat):decide (V.int (Builtin.bitAnd ((a:Int) / 2 ^ (k:Int).toNat) 1)=V.int 1)=Jn a k:=by
 have e:((a:Int) / 2 ^ (k:Int).toNat)=((a / 2 ^ k:Nat):Int):=by
  rw [Int.toNat_natCast,Y0]; omega
 rw [e,show (1:Int)=((1:Nat):Int) from rfl,Ac,Jk,Nat.and_one_is_mod]
 rfl
theorem Hu (p:Nat->Bool) (i:Nat):(List.range (i + 1)).filter p=(List.range i).filter p++(if p i=true then [i] else []):=by
 rw [List.range_succ,List.filter_append]
 congr 1
 cases h:p i <;> simp [h]
section
variable {X:Cx} {K:Θf}
theorem C9 (h:X.K=K):IxR X (Af9 K):=h ▸ Aa8
theorem C2 (h:X.K=K):IxR X (Aga K):=h ▸ Adp
theorem D9 (h:X.K=K):Q6 X (.builtin "len") (fun xs H Q=>∃p ys,xs=[.ref p]/\(SqL K H p ys\/SqT K H p ys)/\Q (.int ys.length) H):=h ▸ Jf
theorem Fg (h:X.K=K):Q6 X (.builtin "isinstance") (fun xs H Q=>∃x n t b,xs=[x,.ty n]/\TyOf K H x t/\PySem.W.kitOne K t (.type n)=some b/\Q (.bl b) H):=h ▸ Li
theorem Ad (h:X.K=K):Q6 X (.type "list") (fun xs H Q=>∃p ys,xs=[.ref p]/\(SqL K H p ys\/SqT K H p ys)/\∀l,H l=none->Q (.ref l) (upd H l (.lst ys))):=h ▸ Jg
theorem Ra (h:X.K=K) (hu:X.A.units + 64 < cLine):OpR X (compareOp .NotEq) (Af8 K true):=h ▸ Aed hu
theorem E3 {tg l:Expr} {tl:TE} (h:X.K=K) (hl:PE X l tl):PI X tg l (Acw K tl):=h ▸ Ab3 hl
theorem Ab4 {tg l:Expr} {tl:TE} (h:X.K=K) (hl:PE X l tl):PI X tg l (Af0 K tl):=h ▸ Aem hl
end
noncomputable def rN (C:Nat->Nat->Prop) (g:Nat->Nat->V):R2:=fun x y H Q=>∃i j:Nat,x=vN i/\y=vN j/\C i j/\Q (g i j) H
noncomputable def rN0 (g:Nat->Nat->V):R2:=fun x y H Q=>∃i j:Nat,x=vN i/\y=vN j/\Q (g i j) H
section
variable {X:Cx}
theorem OpR.mono {f:Value->Value->Sem Value} {r r':R2} (h:OpR X f r) (k:∀x y H Q,r' x y H Q->r x y H Q):OpR X f r':=fun pins s σ H x y v u Q I rx ry q=>h pins s σ H x y v u Q I rx ry (k x y H Q q)
theorem F9:OpR X (binaryOp .Add) (rN0 fun i j=>vN (i + j)):=op_add.mono fun x y H Q ⟨i,j,h1,h2,q⟩=>⟨i,j,h1,h2,by show Q (V.int ((i:Int) + j)) H; rw [<-Int.natCast_add]; exact q⟩
theorem Rb:OpR X (binaryOp .Sub) (rN (fun i j=>j<=i) fun i j=>vN (i - j)):=op_sub.mono fun x y H Q ⟨i,j,h1,h2,h,q⟩=>⟨i,j,h1,h2,by show Q (V.int ((i:Int) - j)) H; rw [<-Int.ofNat_sub h]; exact q⟩
theorem V9:OpR X (binaryOp .Mult) (rN (fun i _=>i < 2 ^ 64) fun i j=>vN (i * j)):=op_mul.mono fun x y H Q ⟨i,j,h1,h2,h,q⟩=>⟨i,j,h1,h2,.inl ⟨by omega,by omega⟩,by show Q (V.int ((i:Int) * j)) H; rw [<-Int.natCast_mul]; exact q⟩
theorem E2:OpR X (binaryOp .Mod) (rN (fun _ j=>0 < j) fun i j=>vN (i % j)):=op_mod.mono fun x y H Q ⟨i,j,h1,h2,h,q⟩=>⟨i,j,h1,h2,by omega,by show Q (V.int ((i:Int) % j)) H; rw [<-Int.natCast_emod]; exact q⟩
theorem F4:OpR X (binaryOp .FloorDiv) (rN (fun _ j=>0 < j/\j < 1073741824) fun i j=>vN (i / j)):=op_fdiv.mono fun x y H Q ⟨i,j,h1,h2,h,q⟩=>⟨i,j,h1,h2,⟨by omega,by omega⟩,by show Q (V.int ((i:Int) / j)) H; rw [<-Int.natCast_ediv]; exact q⟩
theorem op_shlN:OpR X (binaryOp .LShift) (rN (fun i j=>j<=1000/\i < 2 ^ 64) fun i j=>vN (i * 2 ^ j)):=op_shl.mono fun x y H Q ⟨i,j,h1,h2,h,q⟩=>⟨i,j,h1,h2,⟨by omega,by omega,by rw [Int.natAbs_natCast]; exact h.2⟩,by
 show Q (V.int ((i:Int) * 2 ^ (j:Int).toNat)) H
 rw [Int.toNat_natCast,Y0,<-Int.natCast_mul]; exact q⟩
theorem P9:OpR X (binaryOp .LShift) (fun x y H Q=>∃j:Nat,x = .int 1/\y=vN j/\j<=1000/\Q (vN (2 ^ j)) H):=op_shlN.mono fun x y H Q ⟨j,h1,h2,h,q⟩=>⟨1,j,h1,h2,⟨h,by decide⟩,by show Q (vN (1 * 2 ^ j)) H; rw [Nat.one_mul]; exact q⟩
theorem Ab0:OpR X (binaryOp .RShift) (rN0 fun i j=>vN (i / 2 ^ j)):=op_shr.mono fun x y H Q ⟨i,j,h1,h2,q⟩=>⟨i,j,h1,h2,by omega,by
 show Q (V.int ((i:Int) / 2 ^ (j:Int).toNat)) H
 rw [Int.toNat_natCast,Y0,<-Int.natCast_ediv]; exact q⟩
theorem O4:OpR X (binaryOp .BitAnd) (rN0 fun i j=>vN (i&&&j)):=op_and.mono fun x y H Q ⟨i,j,h1,h2,q⟩=>⟨i,j,h1,h2,by show Q (V.int (Builtin.bitAnd (i:Int) j)) H; rw [Ac]; exact q⟩
theorem X4:OpR X (binaryOp .BitOr) (rN0 fun i j=>vN (i|||j)):=op_or.mono fun x y H Q ⟨i,j,h1,h2,q⟩=>⟨i,j,h1,h2,by show Q (V.int (Builtin.bitOr (i:Int) j)) H; rw [Su]; exact q⟩
theorem O1:OpR X (compareOp .Eq) (rN0 fun i j=>.bl (decide (i=j))):=op_eq.mono fun x y H Q ⟨i,j,h1,h2,q⟩=>by
 subst h1 h2
 refine ⟨rfl,?_⟩
 show Q (V.bl (decide (V.int (i:Int)=V.int (j:Int)))) H
 rw [Jk]; exact q
theorem X3:OpR X (compareOp .NotEq) (rN0 fun i j=>.bl (!decide (i=j))):=op_ne.mono fun x y H Q ⟨i,j,h1,h2,q⟩=>by
 subst h1 h2
 refine ⟨rfl,?_⟩
 show Q (V.bl (!decide (V.int (i:Int)=V.int (j:Int)))) H
 rw [Jk]; exact q
theorem dlt (i j:Nat):decide ((i:Int) < (j:Int))=decide (i < j):=by rw [decide_eq_decide]; omega
theorem dle (i j:Nat):decide ((i:Int)<=(j:Int))=decide (i<=j):=by rw [decide_eq_decide]; omega
theorem Fx:OpR X (compareOp .Lt) (rN0 fun i j=>.bl (decide (i < j))):=op_lt.mono fun x y H Q ⟨i,j,h1,h2,q⟩=>⟨i,j,h1,h2,by show Q (V.bl (decide ((i:Int) < j))) H; rw [dlt]; exact q⟩
theorem Aec:OpR X (compareOp .LtE) (rN0 fun i j=>.bl (decide (i<=j))):=op_le.mono fun x y H Q ⟨i,j,h1,h2,q⟩=>⟨i,j,h1,h2,by show Q (V.bl (decide ((i:Int)<=j))) H; rw [dle]; exact q⟩
theorem T5:OpR X (compareOp .Gt) (rN0 fun i j=>.bl (decide (j < i))):=op_gt.mono fun x y H Q ⟨i,j,h1,h2,q⟩=>⟨i,j,h1,h2,by show Q (V.bl (decide ((j:Int) < i))) H; rw [dlt]; exact q⟩
theorem Aeb:OpR X (compareOp .GtE) (rN0 fun i j=>.bl (decide (j<=i))):=op_ge.mono fun x y H Q ⟨i,j,h1,h2,q⟩=>⟨i,j,h1,h2,by show Q (V.bl (decide ((j:Int)<=i))) H; rw [dle]; exact q⟩
end
theorem U3 {k:Nat} {n:Nat} {g:TG} {tc:TT} {te:TE} {σ:St} {H:Hp} {F:List V->Hp->Prop} (Pv:Nat->List V->Hp->Prop) (hn:k<=1000000) (h0:Pv 0 [] H)
  (hl:∀i acc H,i<=k->Pv i acc H->acc.length<=i)
  (hs:∀i acc H,i < k->Pv i acc H->g (vN i) (List.replicate n none++σ) H fun σ2 H2=>σ2.drop n=σ/\tc σ2 H2 fun c H3=>if c=true then te σ2 H3 fun y H4=>Pv (i + 1) (acc++[y]) H4 else Pv (i + 1) acc H3)
  (hd:∀acc H,Pv k acc H->F acc H):LCW n (Itr 0 k) g tc te σ H F:=
 Lw Pv hn h0 hl (fun i acc H hi p=>by rw [Int.zero_add]; exact hs i acc H hi p) hd
theorem Ag {n:Nat} {g:TG} {tb:TS} {D:Ends} {σ:St} {H:Hp} (Pv:Nat->St->Hp->Prop) (h0:Pv 0 σ H)
  (hs:∀i σ H,i < n->Pv i σ H->g (vN i) σ H fun σ2 H2=>tb { D with nx:=Pv (i + 1),ct:=Pv (i + 1),bk:=D.nx } σ2 H2) (hd:∀σ H,Pv n σ H->D.nx σ H) :
  ∃W:Nat->Nat->St->Hp->Prop,(∃m,W 0 m σ H)/\∀i m σ H,W i m σ H->
   ((Itr 0 n).stop i H/\D.nx σ H)\/((Itr 0 n).go i H/\∃N:St->Hp->Prop,(∀σ' H',N σ' H'->∃m',m' < m/\W (i + 1) m' σ' H')/\∀x H',(Itr 0 n).yld i H x H'->g x σ H' fun σ2 H2=>tb { D with nx:=N,ct:=N,bk:=D.nx } σ2 H2):=
 Hv (lo:=0) Pv h0 (fun i σ H hi p=>by rw [Int.zero_add]; exact hs i σ H hi p) hd
section
variable {X:Cx} {K:Θf}
theorem Jh (h:X.K=K):Q6 X (.builtin "sorted") (fun xs H Q=>∃(p:Addr) (ns:List Int),xs=[.ref p]/\SqL K H p (ns.map V.int)/\ns.length < 64/\∀(l:Addr) (ns':List Int),H l=none->ns'.Perm ns->ns'.Pairwise (·<=·)->Q (.ref l) (upd H l (.lst (ns'.map V.int)))):=by
 subst h
 intro pins s σ H xs us Q I r h
 obtain ⟨p,ns,rfl,hq,h64,q⟩:=h
 obtain ⟨u,rfl,rx⟩:=Z9 r
 cases rx
 obtain ⟨its,rv,pl,hz⟩:=I.list hq
 refine sorted_ints pl.isList (Ai rv) (by rw [<-rv.length,Θl]; exact h64) fun out ns' a1 a2 a3=>?_
 obtain ⟨e,he⟩:=sortedAll_at s.heap its out
 refine ⟨.ref (s.heap.objs.size + 1),_,I.laid (t':=s.toks) (fun b o=>sortedAll_old) (Nat.le_succ _) (show ObjOk X.prog X.w _ _ _ (.lst (ns'.map V.int)) from ⟨?_,out.toList,e,Dm a1,by simpa using he⟩),rfl,q _ ns' (I.hok.fresh (Nat.le_succ _)) a2 a3⟩
 rw [Θl,a2.length_eq]
 exact Nat.le_of_lt (D0 (by omega))
theorem Yi {o e:Expr} {es:List Expr} {to:TE} {t:TA} {name:Str} {apos cpos:Pos} {T id:String} {r:V->List V->Hp->VK->Prop} (hK:X.K=K) (pa:PlainAttrs T) (slot:Slot T name id) (hty:typeOf (.builtin id)=pure (.type "method_descriptor")) (hm:MtR X id r) (ho:PE X o to) (ha:PA X (e :: es) t)
  (hbase:attributeBase o name X.env (eval o X.env)=eval o X.env:=by rfl)
  (hfew:((backTo cpos (starEach (e :: es) X.env)).all (fun x=>!x.1) && (backToKw cpos (keywordEach [] X.env)).all (fun x=>x.1.isSome)
   && decide ((e :: es).length + ([]:List Keyword).length + (if ([]:List Keyword).isEmpty then 0 else 1) < 30))=true:=by rfl)
  (hline:(apos.endLine == cpos.line)=true:=by rfl) (hs:starEach (e :: es) X.env=(false,eval e X.env) :: starEach es X.env:=by rfl) (hplain:(backTo cpos (starEach es X.env)).any (·.1)=false:=by rfl) :
  PE X (.Call (.Attribute o name apos) (e :: es) [] cpos) (tBM K T r to t):=hK ▸ I9 pa slot hty hm ho ha hbase hfew hline hs hplain
theorem Pc {st:List Stmt} {t:TS} (i:Nat) (h:PSs X st t):PSs X st (fun D σ H=>t D (σ.set i none) H):=fun pins s σ H D I hw=>
 h pins s (σ.set i none) H D (I.weak (by simp) fun j v e=>by
  by_cases hj:i=j
  ·subst hj
   rw [List.getElem?_set] at e
   simp only [if_true] at e
   split at e <;> cases e
  ·rwa [List.getElem?_set_ne hj] at e) hw
noncomputable abbrev Cx.withN (X:Cx) (N':List Str):Cx:={ X with N:=N' }
theorem Cx.Ok.withN {X:Cx} (ok:X.Ok) (N':List Str):(X.withN N').Ok:=
 ⟨ok.mod,ok.kind,ok.glob,ok.blt,ok.above,ok.inj,ok.has,ok.cab,ok.hd,ok.frames,ok.stk,ok.exf,ok.bs,ok.bsz,ok.noex,ok.exfs,ok.funs,ok.frf⟩
theorem Cx.Ok.ofN {X:Cx} {N':List Str} (ok:(X.withN N').Ok):X.Ok:=
 ⟨ok.mod,ok.kind,ok.glob,ok.blt,ok.above,ok.inj,ok.has,ok.cab,ok.hd,ok.frames,ok.stk,ok.exf,ok.bs,ok.bsz,ok.noex,ok.exfs,ok.funs,ok.frf⟩
theorem Ab1 {e:Expr} {t:TE} (j:Nat) (hv:¬Vis X.env.scope "") (h:PE (X.withN (X.N.set j "")) e t):PE X e (fun σ H Q=>(∀v,σ[j]?≠some (some v))/\t σ H Q):=by
 intro pins s σ H Q I ⟨hd,hw⟩
 have I':Inv (X.withN (X.N.set j "")) pins σ H s:=by
  refine ⟨I.ok.withN _,I.os,I.bare,I.base,?_,I.cell,I.free,I.freeC,I.pin,I.hok,by rw [I.len]; simp⟩
  obtain ⟨m,h1,h2⟩:=I.loc
  refine ⟨m,h1,fun i x v e1 e2 e3=>?_⟩
  by_cases hj:j=i
  ·subst hj; exact absurd e2 (hd v)
  ·exact h2 i x v (by rwa [show (X.withN (X.N.set j "")).N=X.N.set j "" from rfl,List.getElem?_set_ne hj] at e1) e2 e3
 refine thn (h pins s σ H Q I' hw) fun u s' ⟨v,H',J,r,q⟩=>⟨v,H',?_,r,q⟩
 refine ⟨J.ok.ofN,J.os,J.bare,J.base,?_,J.cell,J.free,J.freeC,J.pin,J.hok,I.len⟩
 obtain ⟨m,h1,h2⟩:=J.loc
 refine ⟨m,h1,fun i x v e1 e2 e3=>?_⟩
 by_cases hj:j=i
 ·subst hj; exact absurd e2 (hd v)
 ·exact h2 i x v (by rwa [show (X.withN (X.N.set j "")).N=X.N.set j "" from rfl,List.getElem?_set_ne hj]) e2 e3
end
noncomputable def SqF (K:Θf) (H:Hp) (a:Addr) (ns:List Int):Prop:=(∃o,H a=some (.frz o (.lst (ns.map V.int))))\/
 ∃(o:Obj) (its:Array Value) (n:Nat),K.lookup a=some o/\o.cls = .type "list"/\o.dict=none/\o.data = .seq its n/\its.size<=sizeLine/\Vals (ns.map V.int) its.toList
theorem SqF.sq {K:Θf} {H:Hp} {a:Addr} {ns:List Int} (h:SqF K H a ns):SqL K H a (ns.map V.int):=by
 rcases h with ⟨o,h⟩ | h
 ·exact .inl (.inr ⟨o,h⟩)
 ·exact .inr h
theorem SqF.of {K:Θf} {H:Hp} {a:Addr} {ns:List Int} (hO:Aap H) (h:SqL K H a (ns.map V.int)):SqF K H a ns:=by
 rcases h with (h | ⟨o,h⟩) | h
 ·rcases hO a with z | ⟨o,xs,z⟩
  ·rw [h] at z; cases z
  ·rw [h] at z; cases z
 ·exact .inl ⟨o,h⟩
 ·exact .inr h
section
variable {X:Cx} {K:Θf}
theorem Sm (bs:List Bool):((List.range bs.length).all fun i=>bs.getD i true)=bs.all id:=by
 rw [Bool.eq_iff_iff,List.all_eq_true,List.all_eq_true]
 constructor
 ·intro h b hb
  obtain ⟨i,hi,rfl⟩:=List.getElem_of_mem hb
  have:=h i (List.mem_range.mpr hi)
  rwa [Zu_,Θh hi] at this
 ·intro h i hi
  have hi':=List.mem_range.mp hi
  rw [Zu_,Θh hi']
  exact h _ (List.getElem_mem hi')
theorem Cn (h:X.K=K) (hc:X.calm=true):Q6 X (.builtin "all") (fun xs H Q=>∃(p:Addr) (bs:List Bool),xs=[.ref p]/\SqL K H p (bs.map V.bl)/\Q (.bl (bs.all id)) H):=by
 subst h
 intro pins s σ H xs us Q I r h
 obtain ⟨p,bs,rfl,hq,q⟩:=h
 obtain ⟨u,rfl,rx⟩:=Z9 r
 cases rx
 obtain ⟨its,rv,pl,hz⟩:=I.list hq
 have len:its.length=bs.length:=by rw [<-rv.length,Θl]
 refine call_all_walk (wpAny_pyIter_list pl.isList ⟨s.heap.objs.size,[s.heap.objs.size,p],[s.heap.objs.size],its.toArray.size,_,_,fun i=>bs.getD i true,rfl,Walks.list (A:=X.A.in1) (I.ok.hd hc) _ p (Zs_ pl.lt) its.toArray,⟨⟨_,Zm_ _ rfl,rfl,rfl⟩,pl.isList.push _⟩,fun i v s' Q' E' hP hQ=>?_,fun h' tk hk=>?_⟩)
 ·have hP':its[i]? = some v:=by simpa using hP
  have hi:i < bs.length:=by rw [<-len]; exact (Ze_.mp hP').1
  obtain ⟨c,e1,r1⟩:=rv.get (i:=i) (x:=V.bl bs[i]) (by rw [Θg,Θh hi]; rfl)
  rw [hP'] at e1
  obtain rfl:=Θo e1
  obtain rfl:v=Value.bool bs[i]:=r1
  refine wpAny_truthy_bool ?_
  have hQ':Q' (bs.getD i true) s':=hQ
  rwa [Zu_,Θh hi] at hQ'
 ·refine ⟨.bl (bs.all id),H,I.kept fun b o e=>hk b o (fun hm=>?_) (Zc_ _ e),?_,q⟩
  ·rw [Θs hm] at e
   exact Nat.lt_irrefl _ (Zn_ e)
  ·show _=Value.bool _
   rw [Zx_,len,Sm]
end
section
variable {prog:Program} {w:World} {A:Around} {E:Value->Shared->Prop} {s:Shared}
theorem Afr {it t:Addr} {i:Nat} {its:Array Value} {x:Value} {Q:Value->Shared->Prop} (hI:s.heap.IsTupleIter it t i) (hT:s.heap.IsTuple t its) (hX:its[i]? = some x)
  (k:∀g,g.IsTupleIter it t (i + 1)->Heap.SameBut it s.heap g->Q x { s with heap:=g }):wpAny (model prog w) A (Builtin.SmallTypes.nextOf (.ref it)) Q E s:=by
 obtain ⟨oi,ei,ci,di⟩:=id hI
 obtain ⟨ot,et,_,nt,dt⟩:=hT
 have fits:(2:Nat)<=sizeLine:=by decide
 unfold Builtin.SmallTypes.nextOf
 refine Za_ (wpAny_callSpecial?_slot (name:=Str.ofString "__next__") hI.typeIs F.slot_tuple_iterator_next (wpAny_call_entry F.slot_tuple_iterator_next hI.typeIs F.entry_tuple_iterator_next ?_ (F.args_tuple_iterator_next_1 _)))
 refine Za_ (m:=field (.ref it) 0) (wpAny_field ei di (x:=.ref t) rfl ?_)
 rw [show (Value.ref t == Value.none)=false from rfl]
 refine Za_ (m:=field (.ref it) 1) (wpAny_field ei di (x:=.int i 0) rfl (Za_ (m:=seqItems? (.ref t)) (wpAny_seqItems et dt ?_)))
 simp only [Int.toNat_natCast,hX]
 refine wpAny_bind (wpAny_setField ei di (by simp) (wpAny_pure ⟨x,rfl,wpAny_pure (k _ ⟨_,Heap.get?_update_self _ ei (Obj.isFreed_of_fields (Obj.data_mapFields di _)),(Obj.cls_mapFields ..).trans ci,?_⟩ (Heap.SameBut.update ..))⟩))
 rw [Obj.data_mapFields di]
 simp [rawInt]
theorem Agy {it t:Addr} {i:Nat} {its:Array Value} {Q:Value->Shared->Prop} (hh:A.handled=none) (hI:s.heap.IsTupleIter it t i) (hT:s.heap.IsTuple t its) (hX:its[i]? = none)
  (k:∀g e,Heap.ExtBut it s.heap g->(∃o,g.get? e=some o/\o.cls = .type "StopIteration")->E (.ref e) { s with heap:=g }):wpAny (model prog w) A (Builtin.SmallTypes.nextOf (.ref it)) Q E s:=by
 obtain ⟨oi,ei,ci,di⟩:=id hI
 obtain ⟨ot,et,_,nt,dt⟩:=hT
 unfold Builtin.SmallTypes.nextOf
 refine Za_ (wpAny_callSpecial?_slot (name:=Str.ofString "__next__") hI.typeIs F.slot_tuple_iterator_next (wpAny_call_entry F.slot_tuple_iterator_next hI.typeIs F.entry_tuple_iterator_next ?_ (F.args_tuple_iterator_next_1 _)))
 refine Za_ (m:=field (.ref it) 0) (wpAny_field ei di (x:=.ref t) rfl ?_)
 rw [show (Value.ref t == Value.none)=false from rfl]
 refine Za_ (m:=field (.ref it) 1) (wpAny_field ei di (x:=.int i 0) rfl (Za_ (m:=seqItems? (.ref t)) (wpAny_seqItems et dt ?_)))
 simp only [Int.toNat_natCast,hX]
 refine wpAny_bind (wpAny_rule (wpAny_bind (wpAny_setField ei di (by simp) (wpAny_bind (m:=newExc (.type "StopIteration") []) ?_))))
 simp only [newExc,newTuple]
 refine wpAny_bind (wpAny_newObj_type (wpAny_bind (m:=firstArgMember _ _) (wpAny_of_eq (a:=Value.none) (by first | rfl | (simp only [firstArgMember]; rfl)) (wpAny_newObj_type ?_ (by size_fits)))) (by size_fits))
 simp only [raiseNew]
 refine Za_ (wpAny_handled ?_)
 first | rw [show A.in1.handled=none from hh] | rw [hh]
 exact Za_ (Zb_ (wpAny_throw (k _ _ (((Heap.SameBut.update ..).extBut.push _).push _) ⟨_,Zm_ _ rfl,rfl⟩)))
theorem Aan {z TI TO a b p q:Addr} {i:Nat} {xs:Array Value} {u v:Value} {Q:Fin->Shared->Prop} (hh:A.handled=none) (D:ZipApart z TI TO a b p q)
  (hZ:IsZip s.heap z TI TO .none) (hI:IsPair s.heap TI (.ref a) (.ref b)) (ha:s.heap.IsTupleIter a p i) (hp:s.heap.IsTuple p xs) (ex:xs[i]? = none)
  (k:∀g e,(∀c o,c≠z->c≠a->s.heap.get? c=some o->g.get? c=some o)->(∃o,g.get? e=some o/\o.cls = .type "StopIteration")->E (.ref e) { s with heap:=g }) :
  wpAny (model prog w) A (Builtin.«zip.__next__» ⟨[.ref z],[]⟩) Q E s:=by
 refine Za_ (m:=field (.ref z) 2) (wpAny_field hZ rfl (x:=.bool false) rfl ?_)
 refine Za_ (m:=field (.ref z) 3) (wpAny_field hZ rfl (x:=.ref TI) rfl (Za_ (wpAny_seqItems hI rfl ?_)))
 refine Za_ (m:=Builtin.SmallTypes.ownedTupleIsFree (.ref z)) ?_
 unfold Builtin.SmallTypes.ownedTupleIsFree
 refine Za_ (wpAny_field hZ rfl (x:=.none) rfl (Zb_ ?_))
 simp only [if_true]
 refine wpAny_bind (wpAny_rule (wpAny_bind (wpAny_field hZ rfl (x:=.ref TO) rfl (wpAny_bind (wpAny_setField_rec hZ (by simp) fun g1 z1 k1=>?_)))))
 replace z1:IsZip g1 z TI TO .ellipsis:=z1
 refine Za_ ?_
 simp only [List.zipIdx_cons,List.zipIdx_nil,List.forIn_cons,List.forIn_nil]
 refine Za_ (Za_ (wpAny_onRaise (Za_ (m:=Builtin.SmallTypes.nextOf (.ref a)) (Agy hh (ha.extBut k1.extBut D.i1z) (hp.extBut k1.extBut D.l1z) ex fun g2 e k2 he=>?_))))
 obtain ⟨oe,ee,ce⟩:=he
 have z2:IsZip g2 z TI TO .ellipsis:=k2 _ _ D.i1z.symm z1
 have ne:e≠z:=fun r=>by subst r; rw [z2] at ee; cases ee; simp at ce
 exact wpAny_setField_rec z2 (by simp) fun g3 _ k3=>k g3 e (fun c o n1 n2 x=>k3.extBut _ _ n1 (k2 _ _ n2 (k1.extBut _ _ n1 x))) ⟨oe,k3.extBut _ _ ne ee,ce⟩
theorem Tq {z TI TO a b p q:Addr} {i:Nat} {xs:Array Value} {Q:Option Value->Shared->Prop} (hh:A.handled=none) (D:ZipApart z TI TO a b p q)
  (hZ:IsZip s.heap z TI TO .none) (hI:IsPair s.heap TI (.ref a) (.ref b)) (ha:s.heap.IsTupleIter a p i) (hp:s.heap.IsTuple p xs) (ex:xs[i]? = none)
  (k:∀g,(∀c o,c≠z->c≠a->s.heap.get? c=some o->g.get? c=some o)->Q none { s with heap:=g }):wpAny (model prog w) A (pyNext (.ref z)) Q E s:=by
 have ty:s.TypeIs (.ref z) "zip":=⟨_,hZ,rfl⟩
 unfold pyNext
 refine Za_ (wpAny_attempt (wpAny_callSpecial?_slot (name:=Str.ofString "__next__") ty F.slot_zip_next (wpAny_call_entry F.slot_zip_next ty F.entry_zip_next ?_ (F.args_zip_next_1 _))))
 refine Aan (u:=.none) (v:=.none) hh D hZ hI ha hp ex fun g e hk he=>?_
 obtain ⟨o,eo,co⟩:=he
 exact Za_ (wpAny_isInstance (T:="StopIteration") (b:=true) ⟨o,eo,co⟩ isSubtype_stop (Zb_ (k g hk)))
end
section
variable {X:Cx} {pins:List (Addr × Obj)} {σ:St} {H:Hp} {s:Shared}
theorem Inv.turnedL {t':Nat} {h':Heap} {ch:List Addr} (I:Inv X pins σ H s) (k:∀b o,b∉ch->s.heap.get? b=some o->h'.get? b=some o) (hf:∀b∈ch,FpOk X pins H b):Inv X pins σ H { s with heap:=h',toks:=t' }:=by
 have nit:∀b u,H b=some u->b∉ch:=fun b u e z=>by rw [(hf b z).1] at e; cases e
 refine I.step (g':=s.gens) (d':=s.drawn) (ch:=ch) (fun b hb=>?_) (fun b o _ _ hc e _=>k b o hc e) (fun b o _ _ hc e _=>⟨o.slots,k b o hc e⟩) (fun _ _ _ _ n=>n) (fun b o hc e=>⟨o,k b o hc e⟩) (fun _ _ e=>e) (fun _ _ _ e=>e) (fun b ps e=>⟨#[],by rw [e]; simp⟩) (fun m hm=>?_) (fun b u e=>?_) I.bare
 ·obtain ⟨f0,f1,f2,f3,f4,f5⟩:=hf b hb
  exact ⟨f3,f1,f4,f5⟩
 ·obtain ⟨o,es,ep,ho,r⟩:=hm
  exact ⟨o,es,ep,k _ o (fun z=>(hf _ z).2.1 rfl) ho,r⟩
 ·refine (I.hok b u e).stay (fun c v hc q=>k c v ?_ q) (fun _ q=>q) fun _ _ q=>q
  rcases hc with z | z
  ·rw [z]; exact nit b u e
  ·exact nit c _ z
end
theorem Same.tupS {K:Θf} {H H':Hp} {a:Addr} {xs:List V} (e:Same H H') (h:SqT K H a xs):SqT K H' a xs:=by
 rcases h with (h | ⟨o,h⟩) | h
 ·exact .inl (.inl (e _ _ h))
 ·exact .inl (.inr ⟨o,e _ _ h⟩)
 ·exact .inr h
section
variable {κ:Type} [DecidableEq κ]
noncomputable def Ci (kvs:List (κ × V)) (k:κ):Option V:=(kvs.find? fun kv=>decide (kv.1=k)).map (·.2)
noncomputable def Bo (kvs:List (κ × V)) (k:κ) (v:V):List (κ × V):=
 if (kvs.any fun kv=>decide (kv.1=k))=true then kvs.map (fun kv=>if kv.1=k then (kv.1,v) else kv) else kvs++[(k,v)]
theorem Ck {p:κ × V} {r:List (κ × V)} {k:κ} (e:p.1=k):Ci (p :: r) k=some p.2:=by simp [Ci,List.find?_cons,e]
theorem Cj {p:κ × V} {r:List (κ × V)} {k:κ} (e:¬p.1=k):Ci (p :: r) k=Ci r k:=by simp [Ci,List.find?_cons,e]
theorem Hc (k:κ):∀kvs:List (κ × V),(kvs.any fun kv=>decide (kv.1=k))=(Ci kvs k).isSome
 | []=>rfl
 | p :: r=>by
  rw [List.any_cons]
  by_cases e:p.1=k
  ·simp only [Ck e,decide_eq_true e,Bool.true_or,Option.isSome_some]
  ·rw [Cj e,decide_eq_false e,Bool.false_or]; exact Hc k r
theorem Dz (kvs:List (κ × V)) (k:κ) (v:V):(Bo kvs k v).length<=kvs.length + 1:=by
 unfold Bo
 split
 ·rw [Θl]; omega
 ·rw [Zv_,ZA,List.length_nil]; omega
theorem RelO.isSome_eq {o:Option V} {u:Option Value} (r:RelO o u):o.isSome=u.isSome:=by
 cases o with
 | none=>cases u with
  | none=>rfl
  | some _=>exact (show False from r).elim
 | some _=>cases u with
  | none=>exact (show False from r).elim
  | some _=>rfl
theorem RelO.getD {o:Option V} {u:Option Value} {d:V} {d':Value} (r:RelO o u) (rd:RelV d d'):RelV (o.getD d) (u.getD d'):=by
 cases o with
 | none=>cases u with
  | none=>exact rd
  | some _=>exact (show False from r).elim
 | some _=>cases u with
  | none=>exact (show False from r).elim
  | some _=>exact r
theorem KV.val {kvs:List (κ × V)} {vs:List (κ × Value)} (r:KV kvs vs) (k:κ):RelO (Ci kvs k) (valueAt vs k):=by
 unfold KV at r
 induction r with
 | nil=>exact True.intro
 | @cons p q ps qs h t ih=>
  obtain ⟨h1,h2⟩:=h
  by_cases e:p.1=k
  ·have e':q.1=k:=h1.symm.trans e
   have b:valueAt (q :: qs) k=some q.2:=by simp [valueAt,List.find?_cons,e']
   rw [Ck e,b]; exact h2
  ·have e':¬q.1=k:=fun z=>e (h1.trans z)
   have b:valueAt (q :: qs) k=valueAt qs k:=by simp [valueAt,List.find?_cons,e']
   rw [Cj e,b]; exact ih
theorem KV.any {kvs:List (κ × V)} {vs:List (κ × Value)} (r:KV kvs vs) (k:κ):(kvs.any fun kv=>decide (kv.1=k))=vs.any fun kv=>decide (kv.1=k):=by
 unfold KV at r
 induction r with
 | nil=>rfl
 | cons h t ih=>rw [List.any_cons,List.any_cons,ih,h.1]
theorem KV.repl {kvs:List (κ × V)} {vs:List (κ × Value)} (r:KV kvs vs) (k:κ) {y:V} {u:Value} (ry:RelV y u) :
  KV (kvs.map fun kv=>if kv.1=k then (kv.1,y) else kv) (vs.map fun kv=>if kv.1=k then (kv.1,u) else kv):=by
 unfold KV at r ⊢
 induction r with
 | nil=>exact .nil
 | @cons p q ps qs h t ih=>
  rw [List.map_cons,List.map_cons]
  refine .cons ?_ ih
  obtain ⟨h1,h2⟩:=h
  by_cases e:p.1=k
  ·rw [if_pos e,if_pos (h1.symm.trans e)]; exact ⟨h1,ry⟩
  ·rw [if_neg e,if_neg (fun z=>e (h1.trans z))]; exact ⟨h1,h2⟩
theorem KV.put {kvs:List (κ × V)} {vs:List (κ × Value)} (r:KV kvs vs) (k:κ) {y:V} {u:Value} (ry:RelV y u):KV (Bo kvs k y) (stored vs k u):=by
 unfold Bo stored
 rw [r.any k]
 by_cases e:(vs.any fun kv=>decide (kv.1=k))=true
 ·rw [if_pos e,if_pos e]; exact r.repl k ry
 ·rw [if_neg e,if_neg e]; exact Paired.snoc r ⟨rfl,ry⟩
theorem KV.length {kvs:List (κ × V)} {vs:List (κ × Value)} (r:KV kvs vs):kvs.length=vs.length:=Paired.length r
end
theorem Ww {P:Program} {w:World} {k:Key} {u:Value} (r:RelV (kV k) u):(K4 P w).is k u=true:=by
 cases k with
 | inl i=>obtain ⟨t,e⟩:=(show ∃t,u=Value.int i t from r); subst e; exact Mc P w i t
 | inr x=>obtain ⟨t,e⟩:=(show ∃t,u=Value.str x t from r); subst e; exact Md P w x t
theorem Hx {P:Program} {w:World}:∀{ks:List Key} {us:List Value},Vals (ks.map kV) us->ItemsAre (K4 P w) ks us
 | [],_,r=>by rw [List.map_nil] at r; cases r; exact .nil
 | k :: ks,_,r=>by
  rw [List.map_cons] at r
  cases r with
  | cons h t=>exact .cons (Ww h) (Hx t)
noncomputable abbrev KT (H:Hp):List (List Key × V)->List (List Key × Addr × Value)->Prop:=Paired fun p q=>p.1=q.1/\H q.2.1=some (.tup (p.1.map kV))/\RelV p.2 q.2.2
theorem KT.val {H:Hp} {kvs:List (List Key × V)} {xs:List (List Key × Addr × Value)} (r:KT H kvs xs) (k:List Key):RelO (Ci kvs k) ((atKey xs k).map (·.2)):=by
 induction r with
 | nil=>exact True.intro
 | @cons p q ps qs h t ih=>
  obtain ⟨h1,_,h2⟩:=h
  by_cases e:p.1=k
  ·have e':q.1=k:=h1.symm.trans e
   have b:atKey (q :: qs) k=some q.2:=by simp [atKey,List.find?_cons,e']
   rw [Ck e,b]; exact h2
  ·have e':¬q.1=k:=fun z=>e (h1.trans z)
   have b:atKey (q :: qs) k=atKey qs k:=by simp [atKey,List.find?_cons,e']
   rw [Cj e,b]; exact ih
theorem KT.repl {H:Hp} {kvs:List (List Key × V)} {xs:List (List Key × Addr × Value)} (r:KT H kvs xs) (k:List Key) {y:V} {u:Value} (ry:RelV y u) :
  KT H (kvs.map fun kv=>if kv.1=k then (kv.1,y) else kv) (xs.map (putAt k u)):=by
 induction r with
 | nil=>exact .nil
 | @cons p q ps qs h t ih=>
  rw [List.map_cons,List.map_cons]
  refine .cons ?_ ih
  obtain ⟨h1,h2,h3⟩:=h
  unfold putAt
  by_cases e:p.1=k
  ·rw [if_pos e,if_pos (h1.symm.trans e)]; exact ⟨h1,h2,ry⟩
  ·rw [if_neg e,if_neg (fun z=>e (h1.trans z))]; exact ⟨h1,h2,h3⟩
theorem KT.put {H:Hp} {kvs:List (List Key × V)} {xs:List (List Key × Addr × Value)} (r:KT H kvs xs) (k:List Key) {b:Addr} {y:V} {u:Value} (hb:H b=some (.tup (k.map kV))) (ry:RelV y u) :
  KT H (Bo kvs k y) (storedH xs k b u):=by
 have e:(kvs.any fun kv=>decide (kv.1=k))=(atKey xs k).isSome:=by
  rw [Hc,(r.val k).isSome_eq,Option.isSome_map]
 unfold Bo storedH
 rw [e]
 by_cases q:(atKey xs k).isSome=true
 ·rw [if_pos q,if_pos q]; exact r.repl k ry
 ·rw [if_neg q,if_neg q]; exact Paired.snoc r ⟨rfl,hb,ry⟩
theorem KT.keeps {H H':Hp} {kvs:List (List Key × V)} {xs:List (List Key × Addr × Value)} (r:KT H kvs xs) (ht:∀b ys,H b=some (.tup ys)->H' b=some (.tup ys)):KT H' kvs xs:=
 Paired.mapP r fun _ _ z=>⟨z.1,ht _ _ z.2.1,z.2.2⟩
section
variable {P:Program} {w:World} {H:Hp} {h:Heap} {a:Addr}
theorem Acy {u:HO} (ok:HOk P w H h) (e:Rd H a u):ObjOk P w H h a u:=e.ok ok
theorem Vz {kvs:List (Key × V)} (ok:HOk P w H h) (e:Rd H a (.dK kvs)):kvs.length<=sizeLine/\(a == sysModules)=false/\∃vs,KV kvs vs/\h.DictOf (K4 P w) a vs:=
 show ObjOk P w H h a (.dK kvs) from Acy ok e
theorem Vy {kvs:List (Key × V)} (ok:HOk P w H h) (e:H a=some (.dK kvs)):kvs.length<=sizeLine/\(a == sysModules)=false/\∃vs,KV kvs vs/\h.DictOf (K4 P w) a vs:=Vz ok (.inl e)
theorem Oe {ks:List Key} (ok:HOk P w H h) (e:H a=some (.tup (ks.map kV))):(tupleKind (K4 P w)).is h ks a:=by
 obtain ⟨_,its,r,o,h1,h2,n,h3⟩:=(show ObjOk P w H h a (.tup (ks.map kV)) from ok a _ e)
 exact ⟨o,its.toArray,n,h1,h2,h3,by simpa using Hx r⟩
theorem Wa {kvs:List (List Key × V)} (ok:HOk P w H h) (e:Rd H a (.dT kvs)):kvs.length<=sizeLine/\(a == sysModules)=false/\
  ∃xs,KT H kvs xs/\h.DictOfH (tupleKind (K4 P w)) a xs:=by
 obtain ⟨z,y,xs,r,o,es,ep,h1,h2,h3,h4,h5⟩:=(show ObjOk P w H h a (.dT kvs) from Acy ok e)
 refine ⟨z,y,xs,r,o,es,ep,h1,h2,h3,h4,fun x hx=>?_,h5⟩
 have all:∀{l:List (List Key × V)} {m:List (List Key × Addr × Value)},KT H l m->∀x∈m,(tupleKind (K4 P w)).is h x.1 x.2.1:=by
  intro l m q
  induction q with
  | nil=>intro x hx; exact nomatch hx
  | @cons p q ps qs hq t ih=>
   intro x hx
   rcases Zg_.mp hx with e | hx
   ·subst e
    exact Oe ok (by rw [<-hq.1]; exact hq.2.1)
   ·exact ih x hx
 exact all r x hx
theorem Afs {kvs:List (List Key × V)} (ok:HOk P w H h) (e:H a=some (.dT kvs)):kvs.length<=sizeLine/\(a == sysModules)=false/\
  ∃xs,KT H kvs xs/\h.DictOfH (tupleKind (K4 P w)) a xs:=Wa ok (.inl e)
end
noncomputable def DGet (H:Hp) (a:Addr) (y:V) (r:Option V):Prop:=
 (∃kvs k,Rd H a (.dK kvs)/\y=kV k/\r=Ci kvs k)\/∃kvs k b,Rd H a (.dT kvs)/\y = .ref b/\H b=some (.tup (k.map kV))/\r=Ci kvs k
noncomputable def DPut (H:Hp) (a:Addr) (y v:V) (H':Hp):Prop:=
 (∃kvs k,H a=some (.dK kvs)/\y=kV k/\kvs.length < sizeLine/\H' = upd H a (.dK (Bo kvs k v)))\/
 ∃kvs k b,H a=some (.dT kvs)/\y = .ref b/\H b=some (.tup (k.map kV))/\kvs.length < sizeLine/\H' = upd H a (.dT (Bo kvs k v))
theorem DGet.k {H:Hp} {a:Addr} {kvs:List (Key × V)} {k:Key} (e:H a=some (.dK kvs)):DGet H a (kV k) (Ci kvs k):=.inl ⟨kvs,k,.inl e,rfl,rfl⟩
theorem DPut.k {H:Hp} {a:Addr} {kvs:List (Key × V)} {k:Key} {v:V} (e:H a=some (.dK kvs)) (hl:kvs.length < sizeLine):DPut H a (kV k) v (upd H a (.dK (Bo kvs k v))):=.inl ⟨kvs,k,e,rfl,hl,rfl⟩
section
variable {X:Cx} {pins:List (Addr × Obj)} {σ:St} {H:Hp} {s:Shared} {a:Addr} {y v:V} {u r:Value} {o:Option V} {A:Around} {E:Value->Shared->Prop}
theorem Inv.big (I:Inv X pins σ H s):sysModules < s.heap.objs.size:=by
 have h:mainGlobals < s.heap.objs.size:=(I.mod.glob.keeps I.bk).lt
 exact Nat.lt_trans (by decide) h
theorem Qm {h':Heap} {t':Nat} {ob:HO} (I:Inv X pins σ H s) (mu:Mut (H a)) (hs:Heap.SameBut a s.heap h') (he:∃q,h'.get? a=some q) (new:ObjOk X.prog X.w (upd H a ob) h' a ob) :
  Inv X pins σ (upd H a ob) { s with heap:=h',toks:=t' }:=
 I.write (x:=a) (e:=a) mu (.inl rfl) (fun b q hb z=>(hs.2 b hb).trans z) he new
theorem Adi {P:Program} {w:World} {H':Hp} {h':Heap} {kvs:List (Key × V)} {vs:List (Key × Value)} (z:kvs.length<=sizeLine) (hd:(a == sysModules)=false) (rel:KV kvs vs) (dd:h'.DictOf (K4 P w) a vs) :
  ObjOk P w H' h' a (.dK kvs):=⟨z,hd,vs,rel,dd⟩
theorem Tb {H':Hp} {Q:Unit->Shared->Prop} (hu:A.units + 1 < cLine) (I:Inv X pins σ H s) (g:DPut H a y v H') (ry:RelV y u) (rv:RelV v r) (h:∀s',Inv X pins σ H' s'->Q () s') :
  wpAny (model X.prog X.w) A (setItem (.ref a) u r) Q E s:=by
 rcases g with ⟨kvs,k,e,ey,l,eH⟩ | ⟨kvs,k,b,e,ey,eb,l,eH⟩
 ·subst ey eH
  obtain ⟨z,hd,vs,rel,dd⟩:=Vy I.hok e
  have hz:vs.length<=sizeLine:=by rw [<-rel.length]; exact z
  have hl:(Bo kvs k v).length<=sizeLine:=by have:=Dz kvs k v; omega
  refine wpAny_setItem_pairs (hsz:=hz) (Ww ry) dd fun h' dd' hs=>h _ ?_
  have he:∃q,h'.get? a=some q:=let ⟨q,_,_,hq,_⟩:=dd'; ⟨q,hq⟩
  exact Qm I (by rw [e]; exact True.intro) hs he (Adi hl hd (rel.put k rv) dd')
 ·subst ey eH
  cases (show u=Value.ref b from ry)
  obtain ⟨z,hd,xs,rel,dd⟩:=Afs I.hok e
  have hz:xs.length<=sizeLine:=by rw [<-Paired.length rel]; exact z
  have hl:(Bo kvs k v).length<=sizeLine:=by have:=Dz kvs k v; omega
  refine wpAny_setItem_heap (hsz:=hz) (tupleKind_room_in1 hu) (Oe I.hok eb) dd fun h' dd' hs=>h _ ?_
  obtain ⟨q,es,ep,hq,h2,h3,h4,_,h5⟩:=dd'
  refine Qm I (by rw [e]; exact True.intro) hs ⟨q,hq⟩ ⟨hl,hd,_,(rel.put k eb rv).keeps fun c ys ec=>?_,q,es,ep,hq,h2,h3,h4,h5⟩
  rw [C6 (Eb ec e (fun z=>nomatch z))]
  exact ec
end
section
variable {X:Cx} {pins:List (Addr × Obj)} {σ:St} {H:Hp} {s:Shared} {a:Addr} {kvs:List (Key × V)} {k:Key} {u:Value} {A:Around} {E:Value->Shared->Prop}
end
noncomputable def Agc (td ty tv:TE):TS:=fun D σ H=>tv σ H fun v H1=>td σ H1 fun x H2=>ty σ H2 fun y H3=>∃a H4,x = .ref a/\DPut H3 a y v H4/\D.nx σ H4
section
variable {X:Cx} {o i e value:Expr} {pos pos' tpos:Pos} {td ty tv:TE}
theorem Ab5 (hu:X.A.units + 1 < cLine) (ho:PE X o td) (hi:PE X i ty) (hv:PE X value tv) (hs:swapsWith value (some (.Subscript o i pos')) pos.line X.env=pure false) :
  PS X (.Assign [.Subscript o i pos'] value pos) (Agc td ty tv):=by
 intro pins s σ H D I h
 refine wpAny_Assign_Subscript (thn (hv pins s σ H _ I h) fun r s1 ⟨v,H1,I1,rv,q1⟩=>thn (ho pins s1 σ H1 _ I1 q1) fun u s2 ⟨x,H2,I2,rx,q2⟩=>thn (hi pins s2 σ H2 _ I2 q2) fun iv s3 ⟨y,H3,I3,ry,a,H4,ex,g,q3⟩=>?_) hs
 subst ex
 obtain rfl:u=Value.ref a:=rx
 exact Tb hu I3 g ry rv fun s4 I4=>⟨σ,H4,I4,q3⟩
end
theorem Vx {P:Program} {w:World} {H:Hp} (h:Heap) (hb:sysModules < h.objs.size):ObjOk P w H (h.push { cls:=.type "dict",data:=.dict #[] }) h.objs.size (.dK []):=
 ⟨Zp_ _,beq_eq_false_iff_ne.mpr (Ne.symm (Zs_ hb)),[],.nil,Heap.DictOf.new h⟩
noncomputable def Ae6:TE:=fun _ H Q=>∀p,H p=none->Q (.ref p) (upd H p (.dK []))
section
variable {X:Cx} {pos:Pos}
theorem Yk:PE X (.Dict [] [] pos) Ae6:=fun pins s σ H Q I h=>
 wpAny_Dict_empty ⟨.ref s.heap.objs.size,_,I.laid (a:=s.heap.objs.size) (o:=.dK []) (t':=s.toks) (fun _ _ q=>Zc_ _ q) (Zd_ _) (Vx s.heap I.big),rfl,h _ (I.hok.fresh (Zd_ _))⟩
end
structure M2 (X:Cx) (o:Expr) (m:Str) (apos:Pos) (e f:Expr) (cpos:Pos):Prop where
 base:attributeBase o m X.env (eval o X.env)=eval o X.env
 few:((backTo cpos (starEach [e,f] X.env)).all (fun x=>!x.1) && (backToKw cpos (keywordEach [] X.env)).all (fun x=>x.1.isSome)
  && decide (([e,f]:List Expr).length + ([]:List Keyword).length + (if ([]:List Keyword).isEmpty then 0 else 1) < 30))=true
 line:(apos.endLine == cpos.line)=true
 trees:backTo cpos (starEach [e,f] X.env)=[(false,eval e X.env),(false,eval f X.env)]
noncomputable def IsD (H:Hp) (a:Addr):Prop:=(∃kvs,Rd H a (.dK kvs))\/∃kvs,Rd H a (.dT kvs)
theorem Wu {X:Cx} {pins:List (Addr × Obj)} {σ:St} {H:Hp} {s:Shared} {a:Addr} (I:Inv X pins σ H s) (d:IsD H a) :
  s.TypeIs (.ref a) "dict"/\(∀b,Value.ref a = .ref b->∃ob,s.heap.get? b=some ob/\ob.dict=none)/\(a == sysModules)=false:=by
 rcases d with ⟨kvs,e⟩ | ⟨kvs,e⟩
 ·obtain ⟨_,hd,vs,_,dd⟩:=Vz I.hok e
  refine ⟨dd.typeIs,fun b q=>?_,hd⟩
  cases q
  obtain ⟨ob,_,_,h1,h2,_⟩:=dd
  exact ⟨ob,h1,h2.2.1⟩
 ·obtain ⟨_,hd,xs,_,dd⟩:=Wa I.hok e
  refine ⟨dd.typeIs,fun b q=>?_,hd⟩
  cases q
  obtain ⟨ob,_,_,h1,h2,_⟩:=dd
  exact ⟨ob,h1,h2.2.1⟩
section
variable {X:Cx} {pins:List (Addr × Obj)} {σ:St} {H:Hp} {s:Shared} {a:Addr} {y d:V} {u r:Value} {o:Option V} {A:Around} {E:Value->Shared->Prop}
theorem Adh {Q:Value->Shared->Prop} (hu:A.units + 1 < cLine) (I:Inv X pins σ H s) (g:DGet H a y o) (ry:RelV y u) (rd:RelV d r) (h:∀w' s',Inv X pins σ H s'->RelV (o.getD d) w'->Q w' s') :
  wpAny (model X.prog X.w) A (call (.builtin "dict.get") [.ref a,u,r]) Q E s:=by
 rcases g with ⟨kvs,k,e,ey,l⟩ | ⟨kvs,k,b,e,ey,eb,l⟩
 ·subst ey
  obtain ⟨z,hd,vs,rel,dd⟩:=Vz I.hok e
  refine call_meetsIn PySem.F.slot_dict_get dd.typeIs PySem.F.entry_dict_get (PySem.F.args_dict_get_3 _ _ _) (meets_dict_get_default (K4 X.prog X.w) a (Ww ry) hd r) ⟨_,dd.mapOf,h _ _ (I.tok _) ?_⟩
  rw [l]
  exact (rel.val k).getD rd
 ·subst ey
  cases (show u=Value.ref b from ry)
  obtain ⟨z,hd,xs,rel,dd⟩:=Wa I.hok e
  refine call_meetsIn PySem.F.slot_dict_get dd.typeIs PySem.F.entry_dict_get (PySem.F.args_dict_get_3 _ _ _) (meetsH_dict_get_default (tupleKind (K4 X.prog X.w)) a b hd r) ⟨tupleKind_room_in1 hu,k,xs,Oe I.hok eb,dd,h _ _ (I.tok _) ?_⟩
  rw [l]
  exact (rel.val k).getD rd
end
noncomputable def Ae5 (td ty tx:TE):TE:=fun σ H Q=>td σ H fun x H1=>∃a,x = .ref a/\IsD H1 a/\ty σ H1 fun y H2=>tx σ H2 fun z H3=>∃o,DGet H3 a y o/\Q (o.getD z) H3
section
variable {X:Cx} {o e f:Expr} {apos cpos:Pos} {td ty tx:TE}
theorem Yj (hu:X.A.units + 1 < cLine) (ho:PE X o td) (he:PE X e ty) (hf:PE X f tx) (m:M2 X o "get" apos e f cpos):PE X (.Call (.Attribute o "get" apos) [e,f] [] cpos) (Ae5 td ty tx):=by
 intro pins s σ H Q I h
 refine wpAny_Call_method m.base m.few m.line PySem.F.plainAttrs_dict PySem.F.slot_dict_get PySem.F.type_dict_get (thn (ho pins s σ H _ I h) fun u s1 ⟨x,H1,I1,rx,a,ex,d,q1⟩=>?_)
 subst ex
 obtain rfl:u=Value.ref a:=rx
 obtain ⟨t1,t2,_⟩:=Wu I1 d
 refine ⟨t1,t2,?_⟩
 rw [m.trees]
 refine Calls.callWith_builtin rfl (Calls.evalArgs_plain (Calls.spliced_cons (thn (he pins s1 σ H1 _ I1 q1) fun iv s2 ⟨y,H2,I2,ry,q2⟩=>
  Calls.spliced_cons (thn (hf pins s2 σ H2 _ I2 q2) fun fv s3 ⟨z,H3,I3,rz,ov,g,q3⟩=>Calls.spliced_nil ?_))))
 exact Adh hu I3 g ry rz fun w' s4 I4 rw'=>⟨_,H3,I4,rw',q3⟩
end
section
variable {X:Cx} {pins:List (Addr × Obj)} {σ:St} {H:Hp} {s:Shared} {a:Addr} {kvs:List (Key × V)} {A:Around} {E:Value->Shared->Prop}
end
section
variable {X:Cx} {pins:List (Addr × Obj)} {σ:St} {H:Hp} {s:Shared} {a:Addr} {y:V} {u:Value} {A:Around} {E:Value->Shared->Prop}
end
section
variable {prog:Program} {w:World} {A:Around} {E:Value->Shared->Prop} {s:Shared} {κ:Type} [DecidableEq κ] {kd:HeapKind prog w κ}
end
section
variable {X:Cx} {o e f:Expr} {apos cpos:Pos} {td ty tx:TE}
end
section
variable {prog:Program} {w:World} {A:Around} {E:Value->Shared->Prop} {s:Shared}
end
section
variable {X:Cx} {pins:List (Addr × Obj)} {σ:St} {H:Hp} {s:Shared}
end
section
variable {prog:Program} {w:World} {A:Around} {E:Value->Shared->Prop} {s:Shared}
end
section
variable {X:Cx} {pins:List (Addr × Obj)} {σ:St} {H:Hp}
end
noncomputable def D6 (st:Bool):Str:=if st=true then "settle" else "deal"
noncomputable def E4 (H:Hp) (r:Addr) (st:Bool) (x y:Nat):Prop:=H r=some (.tup [.str (D6 st),vN x,vN y])
structure Rl where
 r:Addr
 st:Bool
 x:Nat
 y:Nat
section
variable {X:Cx} {K:Θf} {pins:List (Addr × Obj)} {σ:St} {H:Hp} {s:Shared}
end
section
variable {X:Cx} {st:Stmt} {rest:List Stmt} {t u:TS}
theorem Et (P:St->Hp->Prop) (h1:PS X st t) (h2:PSs X rest u):PSs X (st :: rest) (fun D σ H=>t { D with nx:=P } σ H/\∀σ' H',P σ' H'->u D σ' H'):=by
 intro pins s σ H D I h
 refine wpAny_execs_cons (thn (h1 pins s σ H { D with nx:=P } I h.1) fun f s1 q=>?_)
 cases f with
 | next=>
  obtain ⟨σ',H',I',q⟩:=q
  exact h2 pins s1 σ' H' D I' (h.2 σ' H' q)
 | ret v=>exact q
 | brk=>exact q
 | cont=>exact q
end
section
variable {X:Cx} {pins:List (Addr × Obj)} {σ:St} {H:Hp} {s:Shared}
noncomputable def Itn (K:Θf) (l:Addr):It:=
 ⟨fun i H=>∃xs x,SqL K H l xs/\xs[i]? = some x,
  fun i H v H'=>∃t x,v = .ref t/\H t=none/\(∀xs,SqL K H l xs->xs[i]? = some x)/\H' = upd H t (.tup [.int (i:Int),x]),
  fun i H=>∃xs,SqL K H l xs/\xs.length<=i⟩
noncomputable def tnN (e it l:Addr) (i:Nat) (h:Heap):Prop:=(∃old,IsEnum h e it (i:Int) old)/\h.IsListIter it l i
theorem Vb {P:Program} {w:World} {K:Θf} {es:List Expr} {n:Nat} {tp:Pos} {e it l:Addr} (hne:e≠it):Turn P w K (.Tuple es n tp) (Itn K l) [e,it] e (tnN e it l) where
 mem:=by simp
 obj:=fun i h st c hc=>by
  obtain ⟨⟨old,hE⟩,⟨oa,ea,_,da⟩⟩:=st
  simp only [List.mem_cons,List.not_mem_nil,or_false] at hc
  rcases hc with rfl | rfl
  ·exact ⟨_,hE,fun v r=>by cases r⟩
  ·exact ⟨_,ea,fun v r=>by rw [da] at r; cases r⟩
 keep:=fun i h h' st k=>by
  obtain ⟨⟨old,hE⟩,ha⟩:=st
  exact ⟨⟨old,k e (by simp) _ hE⟩,ha.at fun o z=>k it (by simp) o z⟩
 item:=by
  intro X hP hw hK hc i pins s σ H E I hf st hg
  subst hP hw hK
  obtain ⟨xs,x,hx,ex⟩:=hg
  obtain ⟨⟨old,hE⟩,ha⟩:=st
  obtain ⟨i1,r1,t1,_⟩:=I.list hx
  obtain ⟨x',ex',rx⟩:=r1.get ex
  refine wpAny_pyNext_enum_item hE ha t1.isList (x:=x') (by simpa using ex') hne fun g c1 c2 c3 c4 c5=>⟨_,rfl,?_⟩
  refine wpAny_letOwnedTupleGo_enum c1 fun g' z' k'=>?_
  have nT:H s.heap.objs.size=none:=I.fresh
  have lz:s.heap.objs.size≠e:=Nat.ne_of_gt (Zn_ hE)
  have IA:Inv X pins σ (upd H s.heap.objs.size (.tup [.int (i:Int),x])) { s with heap:=s.heap.push { cls:=.type "tuple",data:=.seq #[.int (i:Int) s.toks,x'] },toks:=s.toks + 1 }:=
   I.laid (t':=s.toks + 1) (fun c o z=>Zc_ _ z) (Zd_ _) (show ObjOk X.prog X.w _ _ _ (.tup [.int (i:Int),x]) from ⟨by show 2<=sizeLine; decide,[.int (i:Int) s.toks,x'],.cons ⟨_,rfl⟩ (.cons rx .nil),⟨_,Zm_ _ rfl,rfl,_,rfl⟩⟩)
  have fp:∀c∈[e,it],FpOk X pins (upd H s.heap.objs.size (.tup [.int (i:Int),x])) c:=fun c hc'=>by
   obtain ⟨f0,f1,f2,f3,f4,f5⟩:=hf c hc'
   refine ⟨?_,f1,f2,f3,f4,f5⟩
   rw [C6]
   ·exact f0
   ·have lt:c < s.heap.objs.size:=by
     simp only [List.mem_cons,List.not_mem_nil,or_false] at hc'
     rcases hc' with rfl | rfl
     ·exact Zn_ hE
     ·obtain ⟨_,z,_⟩:=ha; exact Zn_ z
    exact Zs_ lt
  have IB:Inv X pins σ (upd H s.heap.objs.size (.tup [.int (i:Int),x])) { s with heap:=g',toks:=s.toks + 1 }:=by
   refine IA.turnedL (t':=s.toks + 1) (h':=g') (fun c o hc' z=>?_) fp
   simp only [List.mem_cons,List.not_mem_nil,or_false,not_or] at hc'
   refine k'.extBut _ _ hc'.1 ?_
   by_cases hcT:c=s.heap.objs.size
   ·subst hcT
    have e1:(s.heap.push { cls:=.type "tuple",data:=.seq #[.int (i:Int) s.toks,x'] }).get? s.heap.objs.size=some { cls:=.type "tuple",data:=.seq #[.int (i:Int) s.toks,x'] }:=Zm_ _ rfl
    have e2:=e1.symm.trans z
    rw [<-Θo e2]
    exact c3
   ·exact c5 c o hc'.1 hc'.2 (by
     have e1:(s.heap.push { cls:=.type "tuple",data:=.seq #[.int (i:Int) s.toks,x'] }).get? c=s.heap.get? c:=Heap.get?_push_ne _ _ _ hcT
     rw [<-e1]; exact z)
  refine ⟨.ref s.heap.objs.size,_,IB,rfl,⟨_,x,rfl,nT,fun zs hz=>by rw [I.list_inj hz hx]; exact ex,rfl⟩,⟨⟨x',?_⟩,c2.extBut k'.extBut hne.symm⟩,fun c hc'=>(fp c hc').1⟩
  have ei:((i + 1:Nat):Int)=(i:Int) + 1:=Int.natCast_succ i
  rw [ei]
  exact z'
 done:=by
  intro X hP hw hK hc i pins s σ H E I hf st hg
  subst hP hw hK
  obtain ⟨xs,hx,hl⟩:=hg
  obtain ⟨⟨old,hE⟩,ha⟩:=st
  obtain ⟨i1,r1,t1,_⟩:=I.list hx
  have len:=r1.length
  refine wpAny_pyNext_enum_end (I.ok.hd hc) hE ha t1.isList (by simp; omega) fun g hk=>⟨rfl,?_⟩
  refine I.turnedL (t':=s.toks) (h':=g) (ch:=[e,it]) (fun c o hc' z=>?_) hf
  simp only [List.mem_cons,List.not_mem_nil,or_false,not_or] at hc'
  exact hk c o hc'.2 z
 self:=fun _ _ _ _ _ st h=>by
  obtain ⟨⟨old,hE⟩,_⟩:=st
  exact wpAny_pyIter_enum hE h
noncomputable def Afx (K:Θf) (ta:TA):TI:=fun σ H R=>ta σ H fun vs H1=>∃(l:Addr) (xs:List V),vs=[.ref l]/\SqL K H1 l xs/\R (Itn K l) H1
theorem Bn {K:Θf} {es:List Expr} {n:Nat} {tp:Pos} {e1:Expr} {ta:TA} {np pos:Pos} (hK:X.K=K) (hg:Gl X "enumerate") (hm:X.mg "enumerate" = none) (ha:PA X [e1] ta)
  (hs:starEach [e1] X.env=[(false,eval e1 X.env)]:=by rfl) :
  PI X (.Tuple es n tp) (.Call (.Name "enumerate" np) [e1] [] pos) (Afx K ta):=by
 subst hK
 intro pins s σ H R I h
 refine Call_ (Al I hg hm boot_enumerate (PyProof.Rows.callWith_type1 (thn (ha pos pins s σ H _ I h) fun us s1 ⟨vs,H1,I1,r1,q1⟩=>?_) (by rw [hs]; rfl) (by rfl)))
 obtain ⟨l,xs,rfl,hl,r⟩:=q1
 obtain ⟨u1,rfl,ru1⟩:=r1.one
 cases ru1
 obtain ⟨i1,v1,t1,_⟩:=I1.list hl
 refine call_enumerate_list t1.isList fun g hE hi hz hk=>?_
 refine wpAny_pyIter_enum hE ⟨s1.heap.objs.size + 1,[s1.heap.objs.size + 1,s1.heap.objs.size],tnN (s1.heap.objs.size + 1) s1.heap.objs.size l,Itn X.K l,H1,rfl,I1.kept (t':=s1.toks) hk,Vb (Nat.succ_ne_self _),⟨⟨_,hE⟩,hi⟩,fun c hc=>?_,r⟩
 have lc:s1.heap.objs.size<=c:=by
  simp only [List.mem_cons,List.not_mem_nil,or_false] at hc
  rcases hc with rfl | rfl <;> omega
 exact I1.fpOk lc (I1.hok.fresh lc)
theorem W6 {K:Θf} {l:Addr} {xs:List V} {g:TG} {tb:TS} {D:Ends} {σ:St} {H:Hp} (Pv:Nat->St->Hp->Prop) (h0:Pv 0 σ H) (hl:∀i σ H,i<=xs.length->Pv i σ H->SqL K H l xs)
  (hs:∀i x σ H t,xs[i]? = some x->Pv i σ H->H t=none->g (.ref t) σ (upd H t (.tup [.int (i:Int),x])) fun σ2 H2=>tb { D with nx:=Pv (i + 1),ct:=Pv (i + 1),bk:=D.nx } σ2 H2) (hd:∀σ H,Pv xs.length σ H->D.nx σ H) :
  ∃W:Nat->Nat->St->Hp->Prop,(∃m,W 0 m σ H)/\∀i m σ H,W i m σ H->
   ((Itn K l).stop i H/\D.nx σ H)\/((Itn K l).go i H/\∃N:St->Hp->Prop,(∀σ' H',N σ' H'->∃m',m' < m/\W (i + 1) m' σ' H')/\∀x H',(Itn K l).yld i H x H'->g x σ H' fun σ2 H2=>tb { D with nx:=N,ct:=N,bk:=D.nx } σ2 H2):=by
 refine ⟨fun i m σ H=>m=xs.length - i/\i<=xs.length/\Pv i σ H,⟨xs.length,by simp,Nat.zero_le _,h0⟩,?_⟩
 rintro i m σ H ⟨rfl,hi,pv⟩
 have h1:=hl i σ H hi pv
 by_cases lt:i < xs.length
 ·refine .inr ⟨⟨xs,xs[i],h1,by simp [lt]⟩,Pv (i + 1),fun σ' H' p'=>⟨xs.length - (i + 1),by omega,rfl,lt,p'⟩,fun v H' yv=>?_⟩
  obtain ⟨t,x,rfl,nt,a3,rfl⟩:=yv
  exact hs i x σ H t (a3 xs h1) pv nt
 ·obtain rfl:i=xs.length:=by omega
  exact .inl ⟨⟨xs,h1,Zd_ _⟩,hd σ H pv⟩
end
mutual
inductive DV (K:Θf) (H:Hp):V->PyData->Prop
 | non:DV K H .non .none
 | bl (b:Bool):DV K H (.bl b) (.bool b)
 | int (i:Int):DV K H (.int i) (.int i)
 | str (x:Str):DV K H (.str x) (.str x)
 | lst {a:Addr} {xs:List V} {ds:List PyData}:SqL K H a xs->DVs K H xs ds->DV K H (.ref a) (.list ds)
 | tup {a:Addr} {xs:List V} {ds:List PyData}:SqT K H a xs->DVs K H xs ds->DV K H (.ref a) (.tuple ds)
inductive DVs (K:Θf) (H:Hp):List V->List PyData->Prop
 | nil:DVs K H [] []
 | cons {x:V} {xs:List V} {d:PyData} {ds:List PyData}:DV K H x d->DVs K H xs ds->DVs K H (x :: xs) (d :: ds)
end
section
variable {X:Cx} {K:Θf} {pins:List (Addr × Obj)} {σ:St} {H:Hp} {s:Shared}
mutual
theorem DV.reads (I:Inv X pins σ H s):∀{v:V} {d:PyData} {u:Value},DV X.K H v d->RelV v u->∃as,Reads s.heap u d as
 | _,_,_,.non,r=>by obtain rfl:=(show _=Value.none from r); exact ⟨_,Reads.none⟩
 | _,_,_,.bl b,r=>by obtain rfl:=(show _=Value.bool b from r); exact ⟨_,Reads.bool b⟩
 | _,_,_,.int i,r=>by obtain ⟨t,rfl⟩:=r; exact ⟨_,.int i t⟩
 | _,_,_,.str x,r=>by obtain ⟨t,rfl⟩:=r; exact ⟨_,.str x t⟩
 | _,_,_,.lst (a:=a) hx hs,r=>by
  obtain rfl:=(show _=Value.ref a from r)
  obtain ⟨its,rv,pl,_⟩:=I.list hx
  obtain ⟨as,ra⟩:=DVs.reads I hs rv
  obtain ⟨o,ho,hc,n,hd⟩:=pl.isList
  exact ⟨_,.list ho hc hd ra⟩
 | _,_,_,.tup (a:=a) hx hs,r=>by
  obtain rfl:=(show _=Value.ref a from r)
  obtain ⟨its,rv,pl,_⟩:=I.tuple hx
  obtain ⟨as,ra⟩:=DVs.reads I hs rv
  obtain ⟨o,ho,hc,n,hd⟩:=pl
  exact ⟨_,.tuple ho hc hd ra⟩
theorem DVs.reads (I:Inv X pins σ H s):∀{vs:List V} {ds:List PyData} {us:List Value},DVs X.K H vs ds->Vals vs us->∃as,ReadsAll s.heap us ds as
 | _,_,_,.nil,.nil=>⟨_,.nil⟩
 | _,_,_,.cons h hs,.cons r rs=>by
  obtain ⟨as,ra⟩:=DV.reads I h r
  obtain ⟨bs,rb⟩:=DVs.reads I hs rs
  exact ⟨_,.cons ra rb⟩
end
noncomputable def Ag7 (K:Θf) (neg:Bool):R2:=fun x y H Q=>∃d1 d2:PyData,DV K H x d1/\DV K H y d2/\SeqAt.shaped d1=true/\SeqAt.shaped d2=true/\SeqAt.noMix d1 d2=true/\Q (.bl (if neg then !same d1 d2 else same d1 d2)) H
theorem Yf (h:X.K=K) (hu:X.A.units + 64 < cLine):OpR X (compareOp .Eq) (Ag7 K false):=by
 subst h
 intro pins s σ H x y v u Q I rx ry h
 obtain ⟨d1,d2,h1,h2,s1,s2,nm,q⟩:=h
 obtain ⟨as,ra⟩:=h1.reads I rx
 obtain ⟨bs,rb⟩:=h2.reads I ry
 exact eq_dataH_same ra rb s1 s2 hu nm ⟨.bl _,H,I,rfl,q⟩
end
section
variable {α:Type} {f:α->PyData}
theorem Ec [DecidableEq α] (h:∀a b,same (f a) (f b)=decide (a=b)):∀xs ys:List α,sameAll (xs.map f) (ys.map f)=decide (xs=ys)
 | [],[]=>by simp [sameAll]
 | [],_ :: _=>by simp [sameAll]
 | _ :: _,[]=>by simp [sameAll]
 | x :: xs,y :: ys=>by
  simp only [List.map_cons,sameAll,h,Ec h xs ys]
  by_cases e:x=y <;> simp [e]
theorem Bj (h:∀a b,SeqAt.noMix (f a) (f b)=true):∀xs ys:List α,SeqAt.noMixAll (xs.map f) (ys.map f)=true
 | [],[]=>by simp [SeqAt.noMixAll]
 | [],_ :: _=>by simp [SeqAt.noMixAll]
 | _ :: _,[]=>by simp [SeqAt.noMixAll]
 | x :: xs,y :: ys=>by simp [SeqAt.noMixAll,h,Bj h xs ys]
theorem Bc {n:Nat} (h:∀a,PyData.depth (f a)<=n):∀xs:List α,PyData.depthAll (xs.map f)<=n
 | []=>by simp [PyData.depthAll]
 | x :: xs=>by
  have h1:=h x
  have h2:=Bc h xs
  simp only [List.map_cons,PyData.depthAll]
  omega
end
section
variable {X:Cx} {K:Θf} {e:Expr} {te:TE} {ste:Expr} {tst:TO} {pos p2:Pos}
end
theorem Fk (xs:List V) (k:Nat):W3 xs none (some (k:Int))=xs.take k:=by
 unfold W3
 show (xs.drop 0).take (HT.sIx xs.length xs.length (some ((k:Nat):Int)) - 0)=_
 rw [HT.sIx_nat,List.drop_zero,Nat.sub_zero,List.take_eq_take_iff]
 omega
theorem Fj (xs:List V) (k:Nat):W3 xs (some (k:Int)) none=xs.drop k:=by
 unfold W3
 rw [HT.sIx_nat,HT.sIx_none]
 by_cases h:k<=xs.length
 ·rw [Nat.min_eq_left h,List.take_of_length_le (by rw [List.length_drop]; exact Zd_ _)]
 ·rw [Nat.min_eq_right (by omega),List.drop_eq_nil_of_le (Zd_ _),List.drop_eq_nil_of_le (by omega),List.take_nil]
theorem Same.none {H H':Hp} {p:Addr} (e:Same H H') (h:H' p=none):H p=none:=by
 cases z:H p with
 | none=>rfl
 | some o=>rw [e _ _ z] at h; cases h
noncomputable def Bz (K:Θf):Sp:=fun vs H Q _=>∃(sc:Addr) (ns:List Int) (k:Nat),vs=[.ref sc,vN k]/\SqL K H sc (ns.map V.int)/\k<=1000/\∀c:Nat,c < 2147483629->Q (vN c) H
noncomputable def Cb:Sp:=fun vs H Q _=>∃c m:Nat,vs=[vN c,vN m]/\c < 2 ^ 32/\1<=m/\m<=7/\∀(st:Bool) (x y:Nat) (r:Addr) (H':Hp),x < 2 ^ m->y < 2 ^ m->Same H H'->H r=none->E4 H' r st x y->Q (.ref r) H'
noncomputable def G9 (st:Bool) (x y b:Nat):Bool:=decide (x&&&b=0) && !decide (y&&&b=0) && (st || !decide (y&&&b=b))
noncomputable def Gu:Sp:=fun vs H Q _=>∃(r:Addr) (st:Bool) (x y b:Nat),vs=[.ref r,vN b]/\E4 H r st x y/\Q (.bl (G9 st x y b)) H
noncomputable def inN (y:Nat) (bs:List Nat) (at_:Nat):Nat:=bs.getD at_ 0&&&y
noncomputable def R0 (y:Nat) (bs:List Nat) (at_:Nat):Nat:=bs.getD at_ 0 - inN y bs at_
noncomputable def R5 (st:Bool) (y fx:Nat) (bs:List Nat) (at_:Nat):Nat:=if st=true then fx + inN y bs at_ else fx
noncomputable def F8 (st:Bool) (y:Nat) (bs:List Nat) (at_:Nat):List Nat:=
 bs.take at_++(if st=true then (if 0 < R0 y bs at_ then [R0 y bs at_] else []) else [inN y bs at_,R0 y bs at_])++bs.drop (at_ + 1)
end L2
namespace L2
end L2
namespace L2
theorem Fy:∀(a b:Nat),a&&&b=0->a|||b=a + b:=by
 intro a
 induction a using Nat.strongRecOn with
 | _ a ih=>
  intro b h
  by_cases a0:a=0
  ·subst a0; simp
  have i:=ih (a / 2) (by omega) (b / 2) (by rw [<-Nat.and_div_two,h])
  rw [<-Nat.or_div_two] at i
  have m1:=Nat.and_mod_two_eq_one (a:=a) (b:=b)
  have m2:=Nat.or_mod_two_eq_one (a:=a) (b:=b)
  rw [h] at m1
  omega
theorem dis_iff {a b:Nat}:a&&&b=0↔∀k,a.testBit k=true->b.testBit k=false:=by
 constructor
 ·intro h k ha
  have e:(a&&&b).testBit k=(0:Nat).testBit k:=by rw [h]
  rw [Nat.testBit_and,Nat.zero_testBit,ha,Bool.true_and] at e
  exact e
 ·intro h
  refine Nat.eq_of_testBit_eq fun k=>?_
  rw [Nat.testBit_and,Nat.zero_testBit]
  cases ha:a.testBit k with
  | false=>rfl
  | true=>rw [h k ha]; rfl
theorem T8 {a b:Nat} (h:a&&&b=0):b&&&a=0:=by rw [Nat.and_comm]; exact h
noncomputable def T4 (c b:Nat):Prop:=∀k,c.testBit k=true->b.testBit k=true
theorem Q9 {a b c:Nat} (h:a&&&b=0) (s:T4 c b):a&&&c=0:=dis_iff.mpr fun k ha=>by
 cases hc:c.testBit k with
 | false=>rfl
 | true=>have:=dis_iff.mp h k ha; rw [s k hc] at this; exact this
theorem Ln {a b c:Nat} (h:b&&&a=0) (s:T4 c b):c&&&a=0:=T8 (Q9 (T8 h) s)
theorem Aci (b y:Nat):b - (b&&&y)=b ^^^ (b&&&y):=by
 have h0:(b ^^^ (b&&&y))&&&(b&&&y)=0:=dis_iff.mpr fun k h=>by
  rw [Nat.testBit_xor,Nat.testBit_and] at h
  rw [Nat.testBit_and]
  cases hb:b.testBit k <;> cases hy:y.testBit k <;> rw [hb,hy] at h <;> first | rfl | (simp at h)
 have h1:(b ^^^ (b&&&y))|||(b&&&y)=b:=by
  refine Nat.eq_of_testBit_eq fun k=>?_
  rw [Nat.testBit_or,Nat.testBit_xor,Nat.testBit_and]
  cases hb:b.testBit k <;> cases hy:y.testBit k <;> rfl
 have h2:=Fy _ _ h0
 omega
theorem Kz (b y k:Nat):(b - (b&&&y)).testBit k=(b.testBit k && !y.testBit k):=by
 rw [Aci,Nat.testBit_xor,Nat.testBit_and]
 cases b.testBit k <;> cases y.testBit k <;> rfl
theorem Dk (b y:Nat):T4 (b&&&y) b:=fun k h=>by
 rw [Nat.testBit_and,Bool.and_eq_true] at h
 exact h.1
theorem Z4 (b y:Nat):T4 (b - (b&&&y)) b:=fun k h=>by
 rw [Kz,Bool.and_eq_true] at h
 exact h.1
theorem Fm (b y:Nat):(b&&&y)&&&(b - (b&&&y))=0:=dis_iff.mpr fun k h=>by
 rw [Nat.testBit_and,Bool.and_eq_true] at h
 rw [Kz,h.1,h.2]; rfl
theorem Wj {m x:Nat} (h:x < 2 ^ m):x&&&(2 ^ m - 1 - x)=0:=dis_iff.mpr fun k hk=>by
 have e:2 ^ m - 1 - x=2 ^ m - (x + 1):=by omega
 rw [e,Nat.testBit_two_pow_sub_succ h,hk]
 simp
structure Good (m fx:Nat) (bs:List Nat):Prop where
 sum:fx + bs.sum=2 ^ m - 1
 pos:∀b∈bs,0 < b
 dis:∀b∈bs,fx&&&b=0
 pw:bs.Pairwise fun a b=>a&&&b=0
theorem Bi:∀{bs:List Nat},(∀b∈bs,0 < b)->bs.length<=bs.sum
 | [],_=>Zd_ _
 | b :: bs,h=>by
  have h1:=h b (Θc ..)
  have h2:=Bi (bs:=bs) fun c hc=>h c (Θd _ hc)
  rw [ZA,List.sum_cons]
  omega
theorem Jq:∀{bs:List Nat} {b:Nat},b∈bs->b<=bs.sum
 | c :: bs,b,h=>by
  rw [List.sum_cons]
  rcases Zg_.mp h with rfl | h
  ·omega
  ·have:=Jq h
   omega
theorem W4 {m:Nat} (h:m<=7):2 ^ m<=128:=Nat.pow_le_pow_right (by decide) h
theorem Good.len {m fx:Nat} {bs:List Nat} (g:Good m fx bs) (h:m<=7):bs.length<=127:=by
 have h1:=Bi g.pos
 have h2:=g.sum
 have h3:=W4 h
 omega
theorem Good.lt {m fx:Nat} {bs:List Nat} (g:Good m fx bs) {b:Nat} (hb:b∈bs):b < 2 ^ m:=by
 have h1:=Jq hb
 have h2:=g.sum
 have h3:=Nat.two_pow_pos m
 omega
theorem Ce {bs:List Nat} {i:Nat} (h:i < bs.length):bs=bs.take i++bs.getD i 0 :: bs.drop (i + 1):=by
 have e:bs.getD i 0=bs[i]:=by rw [Zu_,Θh h]; rfl
 rw [e,<-List.drop_eq_getElem_cons h,List.take_append_drop]
theorem Jb {st:Bool} {x y b:Nat} (h:G9 st x y b=true):x&&&b=0/\0 < b&&&y/\(st=true\/b&&&y < b):=by
 unfold G9 at h
 rw [Bool.and_eq_true,Bool.and_eq_true] at h
 obtain ⟨⟨h1,h2⟩,h3⟩:=h
 have e1:=Zj_ h1
 have e2:¬(y&&&b=0):=by
  intro z; rw [Zr_ z] at h2; cases h2
 rw [Nat.and_comm] at e2
 refine ⟨e1,by omega,?_⟩
 rw [Bool.or_eq_true] at h3
 rcases h3 with h3 | h3
 ·exact .inl h3
 ·right
  have e3:¬(y&&&b=b):=by
   intro z; rw [Zr_ z] at h3; cases h3
  rw [Nat.and_comm] at e3
  have:=Nat.and_le_left (n:=b) (m:=y)
  omega
theorem Good.use {m fx:Nat} {bs:List Nat} (g:Good m fx bs) {st:Bool} {x y i:Nat} (hi:i < bs.length) (hu:G9 st x y (bs.getD i 0)=true) :
  Good m (R5 st y fx bs i) (F8 st y bs i)/\2 * (F8 st y bs i).sum - (F8 st y bs i).length < 2 * bs.sum - bs.length:=by
 obtain ⟨_,hin,hout⟩:=Jb hu
 have e:=Ce hi
 have ls:=Bi g.pos
 unfold R5 F8 R0 inN
 generalize bs.getD i 0=b at e hin hout
 generalize bs.take i=p at e
 generalize bs.drop (i + 1)=q at e
 subst e
 have le:b&&&y<=b:=Nat.and_le_left
 obtain ⟨sm,ps,ds,pw⟩:=g
 have hb:b∈p++b :: q:=Zh_ _ (Θc ..)
 have hp:∀c∈p,c∈p++b :: q:=fun c hc=>Zt_ _ hc
 have hq:∀c∈q,c∈p++b :: q:=fun c hc=>Zh_ _ (Θd _ hc)
 have db:=ds b hb
 rw [List.pairwise_append,List.pairwise_cons] at pw
 obtain ⟨pp,⟨bq,qq⟩,pq⟩:=pw
 have pb:∀c∈p,c&&&b=0:=fun c hc=>pq c hc b (Θc ..)
 have pq':∀c∈p,∀d∈q,c&&&d=0:=fun c hc d hd=>pq c hc d (Θd _ hd)
 have sm':(p++b :: q).sum=p.sum + (b + q.sum):=by rw [List.sum_append,List.sum_cons]
 have ln':(p++b :: q).length=p.length + (q.length + 1):=by rw [Zv_,ZA]
 rw [sm'] at sm ls
 rw [sm',ln']
 rw [ln'] at ls
 have lp:p.length<=p.sum:=Bi fun c hc=>ps c (hp c hc)
 have lq:q.length<=q.sum:=Bi fun c hc=>ps c (hq c hc)
 have orfx:∀c,fx&&&c=0->(b&&&y)&&&c=0->(fx + (b&&&y))&&&c=0:=fun c h1 h2=>by
  rw [<-Fy _ _ (Q9 db (Dk b y))]
  refine dis_iff.mpr fun k hk=>?_
  rw [Nat.testBit_or,Bool.or_eq_true] at hk
  rcases hk with hk | hk
  ·exact dis_iff.mp h1 k hk
  ·exact dis_iff.mp h2 k hk
 have inp:∀c∈p,(b&&&y)&&&c=0:=fun c hc=>T8 (Q9 (pb c hc) (Dk b y))
 have inq:∀c∈q,(b&&&y)&&&c=0:=fun c hc=>Ln (bq c hc) (Dk b y)
 have outp:∀c∈p,c&&&(b - (b&&&y))=0:=fun c hc=>Q9 (pb c hc) (Z4 b y)
 have outq:∀c∈q,(b - (b&&&y))&&&c=0:=fun c hc=>Ln (bq c hc) (Z4 b y)
 cases st with
 | true=>
  simp only [if_true]
  by_cases ho:0 < b - (b&&&y)
  ·rw [if_pos ho]
   refine ⟨⟨?_,?_,?_,?_⟩,?_⟩
   ·rw [Zy_,List.sum_append,List.singleton_append,List.sum_cons]; omega
   ·intro c hc
    rcases Θa hc with hc | hc
    ·rcases Θa hc with hc | hc
     ·exact ps c (hp c hc)
     ·rw [Θs hc]; exact ho
    ·exact ps c (hq c hc)
   ·intro c hc
    rcases Θa hc with hc | hc
    ·rcases Θa hc with hc | hc
     ·exact orfx c (ds c (hp c hc)) (inp c hc)
     ·rw [Θs hc]; exact orfx _ (Q9 db (Z4 b y)) (Fm b y)
    ·exact orfx c (ds c (hq c hc)) (inq c hc)
   ·rw [Zy_,List.singleton_append,List.pairwise_append,List.pairwise_cons]
    refine ⟨pp,⟨outq,qq⟩,fun c hc d hd=>?_⟩
    rcases Zg_.mp hd with rfl | hd
    ·exact outp c hc
    ·exact pq' c hc d hd
   ·rw [Zy_,List.sum_append,List.singleton_append,List.sum_cons,Zv_,ZA]; omega
  ·rw [if_neg ho,List.append_nil]
   refine ⟨⟨?_,?_,?_,?_⟩,?_⟩
   ·rw [List.sum_append]; omega
   ·intro c hc
    rcases Θa hc with hc | hc
    ·exact ps c (hp c hc)
    ·exact ps c (hq c hc)
   ·intro c hc
    rcases Θa hc with hc | hc
    ·exact orfx c (ds c (hp c hc)) (inp c hc)
    ·exact orfx c (ds c (hq c hc)) (inq c hc)
   ·rw [List.pairwise_append]
    exact ⟨pp,qq,pq'⟩
   ·rw [List.sum_append,Zv_]; omega
 | false=>
  have ho:0 < b - (b&&&y):=by
   rcases hout with h | h
   ·cases h
   ·omega
  simp only [Bool.false_eq_true,if_false]
  rw [Zy_,List.cons_append,List.cons_append,List.nil_append]
  refine ⟨⟨?_,?_,?_,?_⟩,?_⟩
  ·rw [List.sum_append,List.sum_cons,List.sum_cons]; omega
  ·intro c hc
   rcases Θa hc with hc | hc
   ·exact ps c (hp c hc)
   ·rcases Zg_.mp hc with rfl | hc
    ·exact hin
    ·rcases Zg_.mp hc with rfl | hc
     ·exact ho
     ·exact ps c (hq c hc)
  ·intro c hc
   rcases Θa hc with hc | hc
   ·exact ds c (hp c hc)
   ·rcases Zg_.mp hc with rfl | hc
    ·exact Q9 db (Dk b y)
    ·rcases Zg_.mp hc with rfl | hc
     ·exact Q9 db (Z4 b y)
     ·exact ds c (hq c hc)
  ·rw [List.pairwise_append,List.pairwise_cons,List.pairwise_cons]
   refine ⟨pp,⟨fun d hd=>?_,outq,qq⟩,fun c hc d hd=>?_⟩
   ·rcases Zg_.mp hd with rfl | hd
    ·exact Fm b y
    ·exact inq d hd
   ·rcases Zg_.mp hd with rfl | hd
    ·exact T8 (inp c hc)
    ·rcases Zg_.mp hd with rfl | hd
     ·exact outp c hc
     ·exact pq' c hc d hd
  ·rw [List.sum_append,List.sum_cons,List.sum_cons,Zv_,ZA,ZA]; omega
noncomputable def E6 (m x:Nat):List Nat:=if x < 2 ^ m - 1 then [2 ^ m - 1 - x] else []
theorem Good.begin {m x:Nat} (h:x < 2 ^ m):Good m x (E6 m x):=by
 unfold E6
 split
 ·refine ⟨by simp; omega,fun b hb=>?_,fun b hb=>?_,List.pairwise_singleton _ _⟩
  ·rw [Θs hb]; omega
  ·rw [Θs hb]; exact Wj h
 ·exact ⟨by simp; omega,fun b hb=>absurd hb List.not_mem_nil,fun b hb=>absurd hb List.not_mem_nil,List.Pairwise.nil⟩
noncomputable abbrev RD:=Bool × Nat × Nat
noncomputable def usB (r:RD) (b:Nat):Bool:=G9 r.1 r.2.1 r.2.2 b
noncomputable def W2 (r:RD) (k:Nat) (bs:List Nat) (n:Nat):List (Nat × Nat):=((List.range n).filter fun a=>usB r (bs.getD a 0)).map fun a=>(k,a)
noncomputable def N6 (rs:List RD) (k:Nat):RD:=rs.getD k (false,0,0)
noncomputable def L5 (rs:List RD) (bs:List Nat) (i:Nat):List (Nat × Nat):=(List.range i).flatMap fun k=>W2 (N6 rs k) k bs bs.length
theorem Ax (r:RD) (k:Nat) (bs:List Nat) (n:Nat):W2 r k bs (n + 1)=W2 r k bs n++(if usB r (bs.getD n 0)=true then [(k,n)] else []):=by
 unfold W2
 rw [List.range_succ,List.filter_append,Zw_]
 congr 1
 cases h:usB r (bs.getD n 0) <;> simp only [List.filter_cons,List.filter_nil,h] <;> rfl
theorem Aw (rs:List RD) (bs:List Nat) (i:Nat):L5 rs bs (i + 1)=L5 rs bs i++W2 (N6 rs i) i bs bs.length:=by
 unfold L5
 rw [List.range_succ,List.flatMap_append,List.flatMap_cons,List.flatMap_nil,List.append_nil]
theorem Tm {r:RD} {k n:Nat} {bs:List Nat} {u:Nat × Nat} (h:u∈W2 r k bs n):u.1=k/\u.2 < n/\usB r (bs.getD u.2 0)=true:=by
 unfold W2 at h
 obtain ⟨a,ha,rfl⟩:=Θn h
 obtain ⟨h1,h2⟩:=List.mem_filter.mp ha
 exact ⟨rfl,List.mem_range.mp h1,h2⟩
theorem U6 {rs:List RD} {bs:List Nat} {i:Nat} {u:Nat × Nat} (h:u∈L5 rs bs i):u.1 < i/\u.2 < bs.length/\usB (N6 rs u.1) (bs.getD u.2 0)=true:=by
 unfold L5 at h
 obtain ⟨k,hk,hu⟩:=List.mem_flatMap.mp h
 obtain ⟨rfl,h2,h3⟩:=Tm hu
 exact ⟨List.mem_range.mp hk,h2,h3⟩
theorem Aal {rs:List RD} {bs:List Nat} (h:L5 rs bs rs.length=[]) {r:RD} (hr:r∈rs) {b:Nat} (hb:b∈bs):usB r b=false:=by
 cases e:usB r b with
 | false=>rfl
 | true=>
  exfalso
  obtain ⟨k,hk,rfl⟩:=List.getElem_of_mem hr
  obtain ⟨a,ha,rfl⟩:=List.getElem_of_mem hb
  have e1:N6 rs k=rs[k]:=by unfold N6; rw [List.getD_eq_getElem?_getD,Θh hk]; rfl
  have e2:bs.getD a 0=bs[a]:=by rw [Zu_,Θh ha]; rfl
  have:(k,a)∈L5 rs bs rs.length:=by
   unfold L5
   refine List.mem_flatMap.mpr ⟨k,List.mem_range.mpr hk,?_⟩
   unfold W2
   refine Θm ⟨a,List.mem_filter.mpr ⟨List.mem_range.mpr ha,?_⟩,rfl⟩
   rw [e1,e2]; exact e
  rw [h] at this
  exact absurd this Zi_
structure US where
 fx:Nat
 bs:List Nat
 st:List (Nat × Nat)
noncomputable def S5 (rs:List RD) (s:US) (u:Nat × Nat):US:=
 ⟨R5 (N6 rs u.1).1 (N6 rs u.1).2.2 s.fx s.bs u.2,F8 (N6 rs u.1).1 (N6 rs u.1).2.2 s.bs u.2,s.st++[(u.1,s.bs.getD u.2 0)]⟩
inductive Run (rs:List RD):US->US->Prop
 | done {s:US}:L5 rs s.bs rs.length=[]->Run rs s s
 | step {s t:US} {u:Nat × Nat} {us:List (Nat × Nat)}:L5 rs s.bs rs.length=u :: us->Run rs (S5 rs s u) t->Run rs s t
theorem Run.det {rs:List RD} {s t:US} (h:Run rs s t):∀{t':US},Run rs s t'->t=t':=by
 induction h with
 | done h=>
  intro t' h'
  cases h' with
  | done _=>rfl
  | step e _=>rw [h] at e; cases e
 | step e _ ih=>
  intro t' h'
  cases h' with
  | done h=>rw [h] at e; cases e
  | step e' r'=>
   rw [e] at e'
   injection e' with e1 e2
   subst e1
   exact ih r'
noncomputable def muS (bs:List Nat):Nat:=2 * bs.sum - bs.length
theorem Z3 {rs:List RD} {s:US} {u:Nat × Nat} {m:Nat} (g:Good m s.fx s.bs) (h:u∈L5 rs s.bs rs.length):Good m (S5 rs s u).fx (S5 rs s u).bs/\muS (S5 rs s u).bs < muS s.bs:=by
 obtain ⟨_,h2,h3⟩:=U6 h
 exact g.use h2 h3
theorem Ach (rs:List RD) (s:US) (u:Nat × Nat):(S5 rs s u).st.length=s.st.length + 1:=by
 unfold S5
 rw [Zv_]; rfl
theorem Jd (r:RD) (k:Nat) (bs:List Nat) (j:Nat):∀d,∃z,W2 r k bs (j + d)=W2 r k bs j++z
 | 0=>⟨[],by rw [List.append_nil]; rfl⟩
 | d + 1=>by
  obtain ⟨z,e⟩:=Jd r k bs j d
  exact ⟨_,by rw [<-Nat.add_assoc,Ax,e,Zy_]⟩
theorem Jc (rs:List RD) (bs:List Nat) (i:Nat):∀d,∃z,L5 rs bs (i + d)=L5 rs bs i++z
 | 0=>⟨[],by rw [List.append_nil]; rfl⟩
 | d + 1=>by
  obtain ⟨z,e⟩:=Jc rs bs i d
  exact ⟨_,by rw [<-Nat.add_assoc,Aw,e,Zy_]⟩
theorem Qg {rs:List RD} {bs:List Nat} {i j n:Nat} (h0:L5 rs bs i=[]) (h1:W2 (N6 rs i) i bs j=[]) (hi:i < n) (hj:j < bs.length) (hu:usB (N6 rs i) (bs.getD j 0)=true):∃us,L5 rs bs n=(i,j) :: us:=by
 obtain ⟨z,e⟩:=Jc rs bs (i + 1) (n - (i + 1))
 obtain ⟨z',e'⟩:=Jd (N6 rs i) i bs (j + 1) (bs.length - (j + 1))
 rw [show i + 1 + (n - (i + 1))=n by omega] at e
 rw [show j + 1 + (bs.length - (j + 1))=bs.length by omega,Ax,h1,if_pos hu] at e'
 rw [e,Aw,h0,e']
 exact ⟨_,rfl⟩
noncomputable def orL (bs:List Nat):Nat:=bs.foldr (·|||·) 0
theorem Jw {c:Nat}:∀{bs:List Nat},(∀b∈bs,c&&&b=0)->c&&&orL bs=0
 | [],_=>by simp [orL]
 | b :: bs,h=>by
  show c&&&(b|||orL bs)=0
  have h1:=h b (Θc ..)
  have h2:=Jw (bs:=bs) fun d hd=>h d (Θd _ hd)
  refine dis_iff.mpr fun k hk=>?_
  rw [Nat.testBit_or,dis_iff.mp h1 k hk,dis_iff.mp h2 k hk]; rfl
theorem Rc:∀{bs:List Nat},(bs.Pairwise fun a b=>a&&&b=0)->orL bs=bs.sum
 | [],_=>rfl
 | b :: bs,h=>by
  rw [List.pairwise_cons] at h
  show b|||orL bs=_
  rw [Fy _ _ (Jw h.1),Rc h.2,List.sum_cons]
theorem tb_orL {k:Nat}:∀{bs:List Nat},(orL bs).testBit k=true↔∃b∈bs,b.testBit k=true
 | []=>by simp [orL]
 | b :: bs=>by
  show (b|||orL bs).testBit k=true↔_
  rw [Nat.testBit_or,Bool.or_eq_true,tb_orL (bs:=bs)]
  constructor
  ·rintro (h | ⟨c,hc,h⟩)
   ·exact ⟨b,Θc ..,h⟩
   ·exact ⟨c,Θd _ hc,h⟩
  ·rintro ⟨c,hc,h⟩
   rcases Zg_.mp hc with rfl | hc
   ·exact .inl h
   ·exact .inr ⟨c,hc,h⟩
theorem Good.col {m fx:Nat} {bs:List Nat} (g:Good m fx bs) {k:Nat}:fx.testBit k=true↔k < m/\∀b∈bs,b.testBit k=false:=by
 have e:fx|||orL bs=2 ^ m - 1:=by rw [Fy _ _ (Jw g.dis),Rc g.pw,g.sum]
 have t:(fx|||orL bs).testBit k=decide (k < m):=by rw [e,Nat.testBit_two_pow_sub_one]
 rw [Nat.testBit_or] at t
 constructor
 ·intro h
  rw [h,Bool.true_or] at t
  exact ⟨Zj_ t.symm,fun b hb=>dis_iff.mp (g.dis b hb) k h⟩
 ·rintro ⟨hk,h⟩
  rw [Zr_ hk,Bool.or_eq_true] at t
  rcases t with t | t
  ·exact t
  ·obtain ⟨b,hb,hbk⟩:=tb_orL.mp t
   rw [h b hb] at hbk; cases hbk
theorem Qf {st:Bool} {x y b d:Nat} (hu:G9 st x y b=true) (hd:G9 st x y d=false) (s:T4 d b):y&&&d=0\/(st=false/\y&&&d=d):=by
 obtain ⟨h1,_,_⟩:=Jb hu
 have h2:x&&&d=0:=Q9 h1 s
 unfold G9 at hd
 rw [Zr_ h2,Bool.true_and] at hd
 by_cases h3:y&&&d=0
 ·exact .inl h3
 ·right
  rw [decide_eq_false h3,Bool.not_false,Bool.true_and,Bool.or_eq_false_iff] at hd
  refine ⟨hd.1,?_⟩
  by_cases h4:y&&&d=d
  ·exact h4
  ·rw [decide_eq_false h4] at hd; cases hd.2
theorem Aa9 {st:Bool} {x y d i:Nat} {bs:List Nat} (hi:i < bs.length) (hu:G9 st x y (bs.getD i 0)=true) (hd:G9 st x y d=false) (d0:d≠0) (h:∃b∈bs,T4 d b):∃b∈F8 st y bs i,T4 d b:=by
 obtain ⟨b,hb,hs⟩:=h
 have e:=Ce hi
 unfold F8 R0 inN
 generalize bs.getD i 0=c at e hu
 generalize bs.take i=p at e
 generalize bs.drop (i + 1)=q at e
 subst e
 rcases Θa hb with hb | hb
 ·exact ⟨b,Zt_ _ (Zt_ _ hb),hs⟩
 rcases Zg_.mp hb with rfl | hb
 ·have so:y&&&d=0->T4 d (b - (b&&&y)):=fun z k hk=>by
   rw [Kz,hs k hk,dis_iff.mp (T8 z) k hk]; rfl
  have si:y&&&d=d->T4 d (b&&&y):=fun z k hk=>by
   have:(y&&&d).testBit k=true:=by rw [z]; exact hk
   rw [Nat.testBit_and,Bool.and_eq_true] at this
   rw [Nat.testBit_and,hs k hk,this.1]; rfl
  have ne:T4 d (b - (b&&&y))->0 < b - (b&&&y):=fun z=>by
   apply Nat.pos_of_ne_zero
   intro e0
   apply d0
   refine Nat.eq_of_testBit_eq fun k=>?_
   rw [Nat.zero_testBit]
   cases hk:d.testBit k with
   | false=>rfl
   | true=>have:=z k hk; rw [e0,Nat.zero_testBit] at this; cases this
  rcases Qf hu hd hs with z | ⟨rfl,z⟩
  ·refine ⟨b - (b&&&y),Zt_ _ (Zh_ _ ?_),so z⟩
   cases st with
   | true=>rw [if_pos rfl,if_pos (ne (so z))]; exact List.mem_singleton.mpr rfl
   | false=>rw [if_neg Zf_]; exact Θd _ (List.mem_singleton.mpr rfl)
  ·exact ⟨b&&&y,Zt_ _ (Zh_ _ (Θc ..)),si z⟩
 ·exact ⟨b,Zh_ _ hb,hs⟩
theorem Aeq {rs:List RD} {k:Nat} (h:k < rs.length):N6 rs k∈rs:=by
 unfold N6
 rw [Zu_,Θh h]
 exact List.getElem_mem h
theorem Run.good {rs:List RD} {s t:US} {m:Nat} (h:Run rs s t):Good m s.fx s.bs->Good m t.fx t.bs/\L5 rs t.bs rs.length=[]:=by
 induction h with
 | done h=>exact fun g=>⟨g,h⟩
 | step e _ ih=>exact fun g=>ih (Z3 g (by rw [e]; exact Θc ..)).1
theorem Run.keep {rs:List RD} {s t:US} {d:Nat} (h:Run rs s t) (d0:d≠0) (hd:∀r∈rs,usB r d=false):(∃b∈s.bs,T4 d b)->∃b∈t.bs,T4 d b:=by
 induction h with
 | done h=>exact id
 | step e _ ih=>
  intro z
  obtain ⟨h1,h2,h3⟩:=U6 (rs:=rs) (by rw [e]; exact Θc ..)
  exact ih (Aa9 h2 h3 (hd _ (Aeq h1)) d0 z)
theorem Ss {m x d:Nat} (hx:x < 2 ^ m) (hd:d < 2 ^ m) (d0:d≠0) (z:d&&&x=0):∃b∈E6 m x,T4 d b:=by
 have s:T4 d (2 ^ m - 1 - x):=fun k hk=>by
  have e:2 ^ m - 1 - x=2 ^ m - (x + 1):=by omega
  rw [e,Nat.testBit_two_pow_sub_succ hx,dis_iff.mp z k hk]
  have:k < m:=by
   apply Nat.lt_of_not_le
   intro le
   have:d.testBit k=false:=Nat.testBit_lt_two_pow (Zq_ hd (Nat.pow_le_pow_right (by decide) le))
   rw [this] at hk; cases hk
  rw [Zr_ this]; rfl
 have lt:x < 2 ^ m - 1:=by
  apply Nat.lt_of_not_le
  intro le
  apply d0
  have e:2 ^ m - 1 - x=0:=by omega
  refine Nat.eq_of_testBit_eq fun k=>?_
  rw [Nat.zero_testBit]
  cases hk:d.testBit k with
  | false=>rfl
  | true=>have:=s k hk; rw [e,Nat.zero_testBit] at this; cases this
 unfold E6
 rw [if_pos lt]
 exact ⟨_,List.mem_singleton.mpr rfl,s⟩
theorem Np {st:Bool} {y i k:Nat} {bs:List Nat} (hi:i < bs.length) (h:∃b∈F8 st y bs i,b.testBit k=true):∃b∈bs,b.testBit k=true:=by
 obtain ⟨b,hb,hk⟩:=h
 have e:=Ce hi
 unfold F8 R0 inN at hb
 generalize bs.getD i 0=c at e hb
 generalize bs.take i=p at e hb
 generalize bs.drop (i + 1)=q at e hb
 subst e
 rcases Θa hb with hb | hb
 ·rcases Θa hb with hb | hb
  ·exact ⟨b,Zt_ _ hb,hk⟩
  ·refine ⟨c,Zh_ _ (Θc ..),?_⟩
   cases st with
   | true=>
    rw [if_pos rfl] at hb
    split at hb
    ·rw [Θs hb] at hk; exact Z4 c y k hk
    ·exact absurd hb Zi_
   | false=>
    rw [if_neg Zf_] at hb
    rcases Zg_.mp hb with rfl | hb
    ·exact Dk c y k hk
    ·rw [Θs hb] at hk; exact Z4 c y k hk
 ·exact ⟨b,Zh_ _ (Θd _ hb),hk⟩
theorem Run.sub {rs:List RD} {s t:US} {k:Nat} (h:Run rs s t):(∃b∈t.bs,b.testBit k=true)->∃b∈s.bs,b.testBit k=true:=by
 induction h with
 | done h=>exact id
 | step e _ ih=>
  intro z
  obtain ⟨_,h2,_⟩:=U6 (rs:=rs) (by rw [e]; exact Θc ..)
  exact Np h2 (ih z)
end L2
namespace L2
open PySem PySem.Spec PyProof.Rows
theorem Same.own {H H':Hp} {p:Addr} {o:HO} (e:Same H H') (h:H p=Option.none):Same H (upd H' p o):=fun c u z=>by
 rw [C6 (C7 z h)]
 exact e c u z
theorem Aar (b y:Nat):Builtin.bitAnd (b:Int) (Builtin.bitNot (y:Int))=((b - (b&&&y):Nat):Int):=by
 have hy:¬0<=Builtin.bitNot (y:Int):=by unfold Builtin.bitNot; omega
 have hb:0<=(b:Int):=by omega
 have le:=Nat.and_le_left (n:=b) (m:=y)
 simp only [Builtin.bitAnd,hy,hb,decide_false,decide_true,Fe,Int.toNat_natCast]
 omega
section
variable {X:Cx} {K:Θf}
theorem P7:OpR X (binaryOp .BitAnd) (fun x y H Q=>∃a b:Nat,x=vN a/\y = .int (Builtin.bitNot (b:Int))/\Q (vN (a - (a&&&b))) H):=op_and.mono fun x y H Q ⟨a,b,h1,h2,q⟩=>⟨a,_,h1,h2,by
 show Q (V.int (Builtin.bitAnd (a:Int) (Builtin.bitNot (b:Int)))) H
 rw [Aar]; exact q⟩
theorem Er {es:List Expr} {k:Nat} {pos:Pos} {t:TGs} {n:Nat} (hK:X.K=K) (hc:X.calm=true) (h:PGs X es t) (hn:(assignEach es X.env).length=n) (hst:(assignEach es X.env).findIdx? (·.1)=none):PG X (.Tuple es k pos) (Afw K n t):=hK ▸ T6 hc h hn hst
theorem J0 {c:Const} {k:Nat} {pos:Pos} {es:List Expr} {te:TE} {t:TA} (ha:PE X (.Constant c k pos) te) (hr:PA X es t):PA X (.Constant c k pos :: es) (Ac5 te t):=A0 ha hr rfl
end
noncomputable def Gs:Sp:=fun vs H Q _=>∃b:Nat,vs=[vN b]/\∀p,H p=none->Q (.ref p) (upd H p (.lst ((if 0 < b then [b] else []).map vN)))
noncomputable def Aab (K:Θf):Sp:=fun vs H Q _=>∃(r l:Addr) (st:Bool) (x y fx at_:Nat) (bs:List Nat),vs=[.ref r,vN fx,.ref l,vN at_]/\E4 H r st x y/\SqL K H l (bs.map vN)/\at_ < bs.length/\bs.length<=200/\fx&&&bs.getD at_ 0=0/\
 ∀(t p:Addr) (H':Hp),Same H H'->H t=none->H' t=some (.tup [vN (R5 st y fx bs at_),.ref p])->H p=none->H' p=some (.lst ((F8 st y bs at_).map vN))->Q (.ref t) H'
noncomputable def Rp (K:Θf):Sp:=fun vs H Q _=>∃m x:Nat,vs=[vN m,vN x]/\m<=7/\x < 2 ^ m/\
 ∀(t p:Addr) (H':Hp),Same H H'->H t=none->H' t=some (.tup [vN x,.ref p])->H p=none->H' p=some (.lst ((E6 m x).map vN))->Q (.ref t) H'
noncomputable def Rl.d (r:Rl):RD:=(r.st,r.x,r.y)
theorem Rf {rs:List Rl} {k:Nat} {r:Rl} (h:rs[k]? = some r):N6 (rs.map Rl.d) k=r.d:=by
 unfold N6
 rw [Zu_,Θg,h]; rfl
noncomputable def RulesAt (H:Hp) (m:Nat) (rs:List Rl):Prop:=∀r∈rs,E4 H r.r r.st r.x r.y/\r.x < 2 ^ m/\r.y < 2 ^ m
theorem RulesAt.same {H H':Hp} {m:Nat} {rs:List Rl} (h:RulesAt H m rs) (e:Same H H'):RulesAt H' m rs:=fun r hr=>⟨e _ _ (h r hr).1,(h r hr).2⟩
noncomputable def Gr (K:Θf):Sp:=fun vs H Q _=>∃(rl bl:Addr) (rs:List Rl) (bs:List Nat) (m:Nat),vs=[.ref rl,.ref bl]/\SqL K H rl (rs.map fun r=>V.ref r.r)/\RulesAt H m rs/\SqL K H bl (bs.map vN)/\rs.length<=200/\bs.length<=200/\
 (∀H',Same H H'->L5 (rs.map Rl.d) bs rs.length=[]->Q .non H')/\
 ∀(u:Nat × Nat) (us:List (Nat × Nat)) (t:Addr) (H':Hp),Same H H'->L5 (rs.map Rl.d) bs rs.length=u :: us->H t=none->H' t=some (.tup [vN u.1,vN u.2])->Q (.ref t) H'
noncomputable abbrev SW:=Addr × (Nat × Nat)
noncomputable def StepsAt (H:Hp) (sw:List SW):Prop:=∀w∈sw,H w.1=some (.tup [vN w.2.1,vN w.2.2])
theorem StepsAt.same {H H':Hp} {sw:List SW} (h:StepsAt H sw) (e:Same H H'):StepsAt H' sw:=fun w hw=>e _ _ (h w hw)
theorem StepsAt.put {H:Hp} {sw:List SW} {q:Addr} {xs ys:List V} (h:StepsAt H sw) (hq:H q=some (.lst xs)):StepsAt (upd H q (.lst ys)) sw:=fun w hw=>by
 rw [C6 (Eb (h w hw) hq (by intro z; cases z))]
 exact h w hw
theorem StepsAt.snoc {H:Hp} {sw:List SW} {w:SW} (h:StepsAt H sw) (hw:H w.1=some (.tup [vN w.2.1,vN w.2.2])):StepsAt H (sw++[w]):=fun v hv=>by
 rcases Θa hv with hv | hv
 ·exact h v hv
 ·rw [Θs hv]; exact hw
theorem Yp (rs:List Rl):(rs.map Rl.d).length=rs.length:=Θl ..
noncomputable def S3 (K:Θf):Sp:=fun vs H Q _=>∃(m x:Nat) (rl:Addr) (rs:List Rl),vs=[vN m,.ref rl,vN x]/\m<=7/\x < 2 ^ m/\SqL K H rl (rs.map fun r=>V.ref r.r)/\RulesAt H m rs/\rs.length<=200/\
 ∀(t p q:Addr) (s:US) (sw:List SW) (H':Hp),Run (rs.map Rl.d) ⟨x,E6 m x,[]⟩ s->Same H H'->H t=none->H' t=some (.tup [vN s.fx,.ref p,.ref q])->H p=none->H' p=some (.lst (s.bs.map vN))->H q=none->H' q=some (.lst (sw.map fun w=>V.ref w.1))->StepsAt H' sw->sw.map (·.2)=s.st->sw.length<=300->p≠q->Q (.ref t) H'
theorem Ip {α:Type} [DecidableEq α] {f:α->PyData} (h:∀a b,same (f a) (f b)=decide (a=b)) (xs ys:List α):same (.list (xs.map f)) (.list (ys.map f))=decide (xs=ys):=by
 simp only [same]
 exact Ec h xs ys
theorem Fv {α:Type} {f:α->PyData} (h:∀a b,SeqAt.noMix (f a) (f b)=true) (xs ys:List α):SeqAt.noMix (.list (xs.map f)) (.list (ys.map f))=true:=by
 simp only [SeqAt.noMix]
 exact Bj h xs ys
structure UCore (H:Hp) (m x:Nat) (rs:List Rl) (s:US) (p qa:Addr) (sw:List SW) (H':Hp):Prop where
 same:Same H H'
 hp0:H p=none
 hp:H' p=some (.lst (s.bs.map vN))
 npq:p≠qa
 hq0:H qa=none
 hq:H' qa=some (.lst (sw.map fun w=>V.ref w.1))
 st:StepsAt H' sw
 est:sw.map (·.2)=s.st
 good:Good m s.fx s.bs
 run:∀z,Run (rs.map Rl.d) s z->Run (rs.map Rl.d) ⟨x,E6 m x,[]⟩ z
 len:s.st.length + muS s.bs<=254
theorem UCore.mono {H:Hp} {m x:Nat} {rs:List Rl} {s:US} {p qa:Addr} {sw:List SW} {H' H'':Hp} (c:UCore H m x rs s p qa sw H') (e:Same H' H''):UCore H m x rs s p qa sw H'':=
 ⟨c.same.trans e,c.hp0,e _ _ c.hp,c.npq,c.hq0,e _ _ c.hq,c.st.same e,c.est,c.good,c.run,c.len⟩
theorem UCore.begin {H H':Hp} {m x:Nat} {rs:List Rl} {p qa:Addr} (m7:m<=7) (hx:x < 2 ^ m) (e:Same H H') (hp0:H p=none) (hp:H' p=some (.lst ((E6 m x).map vN))) (hq:H' qa=none):UCore H m x rs ⟨x,E6 m x,[]⟩ p qa [] (upd H' qa (.lst [])):=by
 have g:=Good.begin hx
 refine ⟨e.trans (Same.new hq),hp0,Same.new hq _ _ hp,C7 hp hq,e.none hq,A3,fun w h=>absurd h Zi_,rfl,g,fun z h=>h,?_⟩
 have e:=g.sum
 have p7:=W4 m7
 show 0 + muS (E6 m x)<=254
 unfold muS
 omega
theorem UCore.slen {H:Hp} {m x:Nat} {rs:List Rl} {s:US} {p qa:Addr} {sw:List SW} {H':Hp} (c:UCore H m x rs s p qa sw H'):sw.length<=254:=by
 have:=c.len
 have e:=congrArg List.length c.est
 rw [Θl] at e
 omega
theorem UCore.next {H:Hp} {m x:Nat} {rs:List Rl} {s:US} {p p' qa:Addr} {sw:List SW} {w:SW} {H1 H3:Hp} {u:Nat × Nat} {us:List (Nat × Nat)} (c:UCore H m x rs s p qa sw H1) (hu:L5 (rs.map Rl.d) s.bs rs.length=u :: us) (ew:w.2=(u.1,s.bs.getD u.2 0)) (hw:H1 w.1=some (.tup [vN w.2.1,vN w.2.2]))
  (s3:Same (upd H1 qa (.lst ((sw.map fun w=>V.ref w.1)++[V.ref w.1]))) H3) (hp':(upd H1 qa (.lst ((sw.map fun w=>V.ref w.1)++[V.ref w.1]))) p' = none) (hp3:H3 p' = some (.lst ((S5 (rs.map Rl.d) s u).bs.map vN))) :
  UCore H m x rs (S5 (rs.map Rl.d) s u) p' qa (sw++[w]) H3/\muS (S5 (rs.map Rl.d) s u).bs < muS s.bs:=by
 rw [<-Yp] at hu
 obtain ⟨g,mu⟩:=Z3 (m:=m) (rs:=rs.map Rl.d) (s:=s) (u:=u) c.good (by rw [hu]; exact Θc ..)
 have sH:Same H (upd H1 qa (.lst ((sw.map fun w=>V.ref w.1)++[V.ref w.1]))):=c.same.own c.hq0
 refine ⟨⟨sH.trans s3,sH.none hp',hp3,Ne.symm (C7 A3 hp'),c.hq0,?_,?_,?_,g,fun z h=>c.run z (Run.step hu h),?_⟩,mu⟩
 ·rw [s3 _ _ A3,Zw_]; rfl
 ·refine ((c.st.put c.hq).snoc ?_).same s3
  rw [C6 (Eb hw c.hq (by intro z; cases z))]
  exact hw
 ·rw [Zw_,c.est]
  show s.st++[w.2]=s.st++[(u.1,s.bs.getD u.2 0)]
  rw [ew]
 ·rw [Ach]
  have:=c.len
  omega
noncomputable def Afl (H:Hp) (m x:Nat) (rl:Addr) (rs:List Rl) (n:Nat) (σ:St) (H':Hp):Prop:=
 ∃(s:US) (t p qa:Addr) (sw:List SW) (v:V),σ=[some (vN m),some (.ref rl),some (vN x),some (.ref t),some (.ref qa),some v]/\n=muS s.bs/\H' t=some (.tup [vN s.fx,.ref p])/\UCore H m x rs s p qa sw H'/\
  ((L5 (rs.map Rl.d) s.bs rs.length=[]/\v = .non)\/∃u us t5,L5 (rs.map Rl.d) s.bs rs.length=u :: us/\v = .ref t5/\H' t5=some (.tup [vN u.1,vN u.2]))
theorem Acp {rs:List Rl} {bs:List Nat} {u:Nat × Nat} {m:Nat} {H:Hp} (hu:u∈L5 (rs.map Rl.d) bs rs.length) (hR:RulesAt H m rs):∃r:Rl,rs[u.1]? = some r/\N6 (rs.map Rl.d) u.1=r.d/\u.2 < bs.length/\bs[u.2]? = some (bs.getD u.2 0)/\(E4 H r.r r.st r.x r.y/\r.x < 2 ^ m/\r.y < 2 ^ m):=by
 obtain ⟨h1,h2,_⟩:=U6 hu
 have e:rs[u.1]? = some rs[u.1]:=Θh h1
 exact ⟨rs[u.1],e,Rf e,h2,by rw [Zu_,Θh h2]; rfl,hR _ (List.getElem_mem h1)⟩
noncomputable def Go (K:Θf):Sp:=fun vs H Q _=>∃(r l:Addr) (st:Bool) (x y:Nat) (bs:List Nat),vs=[.ref r,.ref l]/\E4 H r st x y/\SqL K H l (bs.map vN)/\bs.length<=200/\
 (bs.find? (usB (st,x,y))=none->Q .non H)/\∀b,bs.find? (usB (st,x,y))=some b->Q (vN b) H
noncomputable def Di (K:Θf):Sp:=fun vs H Q _=>∃(m:Nat) (rl r:Addr) (rs:List Rl) (st:Bool) (x y:Nat),vs=[vN m,.ref rl,.ref r]/\m<=7/\x < 2 ^ m/\SqL K H rl (rs.map fun r=>V.ref r.r)/\RulesAt H m rs/\rs.length<=200/\E4 H r st x y/\
 (∀(s:US) (t q:Addr) (sw:List SW) (H':Hp),Run (rs.map Rl.d) ⟨x,E6 m x,[]⟩ s->s.bs.find? (usB (st,x,y))=none->Same H H'->H t=none->H' t=some (.tup [.str "yes",.ref q])->H q=none->H' q=some (.lst (sw.map fun w=>V.ref w.1))->StepsAt H' sw->sw.map (·.2)=s.st->sw.length<=300->Q (.ref t) H')/\
 ∀(s:US) (b:Nat) (t:Addr) (H':Hp),Run (rs.map Rl.d) ⟨x,E6 m x,[]⟩ s->s.bs.find? (usB (st,x,y))=some b->Same H H'->H t=none->H' t=some (.tup [.str "no",vN b])->Q (.ref t) H'
theorem Fo {f:Nat->Bool} {bs:List Nat} {i b:Nat} (h0:(bs.take i).find? f=none) (e:bs[i]? = some b) (h:f b=true):bs.find? f=some b:=by
 have hi:i < bs.length:=(Ze_.mp e).1
 have s:=Ce hi
 have ebd:bs.getD i 0=b:=by rw [Zu_,e]; rfl
 rw [s,List.find?_append,h0,ebd,List.find?_cons,h]
 rfl
theorem Y3 {f:Nat->Bool} {bs:List Nat} {i b:Nat} (h0:(bs.take i).find? f=none) (e:bs[i]? = some b) (h:f b≠true):(bs.take (i + 1)).find? f=none:=by
 rw [List.take_succ,e,List.find?_append,h0]
 show (none:Option Nat).or ([b].find? f)=none
 rw [List.find?_cons]
 cases z:f b with
 | true=>exact absurd z h
 | false=>rfl
section
variable {X:Cx} {K:Θf}
end
noncomputable def Dj (K:Θf):Sp:=fun vs H Q _=>∃(m x:Nat) (rl:Addr) (rs:List Rl),vs=[vN m,.ref rl,vN x]/\m<=7/\x < 2 ^ m/\SqL K H rl (rs.map fun r=>V.ref r.r)/\RulesAt H m rs/\rs.length<=200/\
 ∀(s:US) (H':Hp),Run (rs.map Rl.d) ⟨x,E6 m x,[]⟩ s->Same H H'->Q (vN s.fx) H'
end L2
namespace L2
theorem Run.apart0 {rs:List RD} {m x:Nat} {s:US} (hx:x < 2 ^ m) (h:Run rs ⟨x,E6 m x,[]⟩ s) {b:Nat} (hb:b∈s.bs):x&&&b=0:=by
 refine dis_iff.mpr fun k hk=>?_
 cases hbk:b.testBit k with
 | false=>rfl
 | true=>
  obtain ⟨c,hc,hck⟩:=h.sub ⟨b,hb,hbk⟩
  have:=(Good.begin hx).dis c hc
  rw [dis_iff.mp this k hk] at hck
  cases hck
noncomputable def I0 (m:Nat) (rs:List RD) (d:Nat):Prop:=1<=d/\d < 2 ^ m/\∀r∈rs,usB r d=false
noncomputable def Q1 (m:Nat) (rs:List RD) (st:Bool) (x y:Nat):Prop:=∀d,I0 m rs d->usB (st,x,y) d=false
noncomputable def D5 (a k:Nat):Prop:=a.testBit k=true
theorem Y1 {a:Nat} (h:a≠0):∃k,D5 a k:=by
 by_cases z:∃k,D5 a k
 ·exact z
 ·exfalso
  apply h
  refine Nat.eq_of_testBit_eq fun k=>?_
  rw [Nat.zero_testBit]
  cases e:a.testBit k with
  | false=>rfl
  | true=>exact absurd ⟨k,e⟩ z
theorem M0 (a b k:Nat):D5 (a&&&b) k↔D5 a k/\D5 b k:=by unfold D5; rw [Nat.testBit_and,Bool.and_eq_true]
theorem V4 (a b k:Nat):D5 (a|||b) k↔D5 a k\/D5 b k:=by unfold D5; rw [Nat.testBit_or,Bool.or_eq_true]
theorem W7 (b y k:Nat):D5 (b - (b&&&y)) k↔D5 b k/\¬D5 y k:=by
 unfold D5
 rw [Kz,Bool.and_eq_true]
 cases y.testBit k <;> simp
theorem V3 {m a k:Nat} (ha:a < 2 ^ m) (h:D5 a k):k < m:=by
 apply Nat.lt_of_not_le
 intro le
 have:a.testBit k=false:=Nat.testBit_lt_two_pow (Zq_ ha (Nat.pow_le_pow_right (by decide) le))
 unfold D5 at h
 rw [this] at h; cases h
theorem and_ne {a b:Nat}:a&&&b≠0↔∃k,D5 a k/\D5 b k:=by
 constructor
 ·intro h
  obtain ⟨k,hk⟩:=Y1 h
  exact ⟨k,(M0 a b k).mp hk⟩
 ·rintro ⟨k,h1,h2⟩ e
  have:=(M0 a b k).mpr ⟨h1,h2⟩
  unfold D5 at this
  rw [e,Nat.zero_testBit] at this
  cases this
theorem Vi {y d:Nat}:y&&&d≠d↔∃k,D5 d k/\¬D5 y k:=by
 constructor
 ·intro h
  by_cases z:∃k,D5 d k/\¬D5 y k
  ·exact z
  ·exfalso
   apply h
   refine Nat.eq_of_testBit_eq fun k=>?_
   rw [Nat.testBit_and]
   cases hd:d.testBit k with
   | false=>rw [Bool.and_false]
   | true=>
    cases hy:y.testBit k with
    | true=>rfl
    | false=>exact absurd ⟨k,hd,fun q=>by unfold D5 at q; rw [hy] at q; cases q⟩ z
 ·rintro ⟨k,h1,h2⟩ e
  apply h2
  have:D5 (y&&&d) k:=by rw [e]; exact h1
  exact ((M0 y d k).mp this).1
theorem us_iff {st:Bool} {x y d:Nat}:usB (st,x,y) d=true↔(∀k,D5 d k->¬D5 x k)/\(∃k,D5 d k/\D5 y k)/\(st=true\/∃k,D5 d k/\¬D5 y k):=by
 show G9 st x y d=true↔_
 unfold G9
 rw [Bool.and_eq_true,Bool.and_eq_true,decide_eq_true_iff,Bool.or_eq_true]
 have e2:(!decide (y&&&d=0))=true↔∃k,D5 d k/\D5 y k:=by
  rw [Bool.not_eq_true',decide_eq_false_iff_not]
  exact and_ne.trans ⟨fun ⟨k,a,b⟩=>⟨k,b,a⟩,fun ⟨k,a,b⟩=>⟨k,b,a⟩⟩
 have e3:(!decide (y&&&d=d))=true↔∃k,D5 d k/\¬D5 y k:=by
  rw [Bool.not_eq_true',decide_eq_false_iff_not]
  exact Vi
 have e1:x&&&d=0↔∀k,D5 d k->¬D5 x k:=by
  constructor
  ·intro h k h1 h2
   exact and_ne.mpr ⟨k,h2,h1⟩ h
  ·intro h
   by_cases z:x&&&d=0
   ·exact z
   ·obtain ⟨k,a,b⟩:=and_ne.mp z
    exact absurd a (h k b)
 rw [e1,e2,e3,and_assoc]
theorem not_us {st:Bool} {x y d:Nat}:usB (st,x,y) d=false↔((∀k,D5 d k->¬D5 x k)->(∃k,D5 d k/\D5 y k)->(st=true\/∃k,D5 d k/\¬D5 y k)->False):=by
 constructor
 ·intro h a b c
  have:=us_iff.mpr ⟨a,b,c⟩
  rw [h] at this; cases this
 ·intro h
  cases e:usB (st,x,y) d with
  | false=>rfl
  | true=>
   obtain ⟨a,b,c⟩:=us_iff.mp e
   exact (h a b c).elim
theorem Run.kept {rs:List RD} {m x:Nat} {s:US} (hx:x < 2 ^ m) (R:Run rs ⟨x,E6 m x,[]⟩ s) {b:Nat} (hb:b∈s.bs):I0 m rs b:=by
 obtain ⟨g,un⟩:=R.good (m:=m) (Good.begin hx)
 exact ⟨g.pos b hb,g.lt hb,fun r hr=>Aal un hr hb⟩
theorem Run.holds {rs:List RD} {m x d:Nat} {s:US} (hx:x < 2 ^ m) (R:Run rs ⟨x,E6 m x,[]⟩ s) (hd:I0 m rs d) (ha:∀k,D5 d k->¬D5 x k):∃b∈s.bs,T4 d b:=by
 have h0:=hd.1
 refine R.keep (by omega) hd.2.2 (Ss hx hd.2.1 (by omega) ?_)
 by_cases z:d&&&x=0
 ·exact z
 ·obtain ⟨k,a,b⟩:=and_ne.mp z
  exact absurd b (ha k a)
theorem Dv {rs:List RD} {m x y:Nat} {st:Bool} {s:US} (hx:x < 2 ^ m) (R:Run rs ⟨x,E6 m x,[]⟩ s):s.bs.find? (usB (st,x,y))=none↔Q1 m rs st x y:=by
 rw [List.find?_eq_none]
 constructor
 ·intro h d hd
  rw [not_us]
  intro a ⟨k,b1,b2⟩ c
  obtain ⟨b,hb,hs⟩:=R.holds hx hd a
  apply h b hb
  rw [us_iff]
  refine ⟨fun k h1 h2=>?_,⟨k,hs k b1,b2⟩,?_⟩
  ·have:=dis_iff.mp (R.apart0 hx hb) k h2
   unfold D5 at h1
   rw [this] at h1; cases h1
  ·rcases c with c | ⟨j,c1,c2⟩
   ·exact .inl c
   ·exact .inr ⟨j,hs j c1,c2⟩
 ·intro h b hb
  rw [h b (R.kept hx hb)]
  exact Zf_
end L2
namespace L2
section
variable {m:Nat} {rs:List RD} {x y z v:Nat}
end
open PySem PySem.Spec PyProof.Rows
theorem RulesAt.put {H:Hp} {m:Nat} {rs:List Rl} {q:Addr} {xs ys:List V} (h:RulesAt H m rs) (hq:H q=some (.lst xs)):RulesAt (upd H q (.lst ys)) m rs:=fun r hr=>by
 refine ⟨?_,(h r hr).2⟩
 have h1:=(h r hr).1
 unfold E4 at h1 ⊢
 rw [C6 (Eb h1 hq (by intro z; cases z))]
 exact h1
end L2
namespace L2
noncomputable def Fc (x d:Nat):Prop:=∀k,D5 d k->¬D5 x k
theorem Vj {x b:Nat} (h:x&&&b=0):Fc x b:=fun k h1 h2=>by
 have:=dis_iff.mp h k h2
 unfold D5 at h1
 rw [this] at h1; cases h1
theorem Ae3 {a b:Nat} (h1:T4 a b) (h2:T4 b a):a=b:=Nat.eq_of_testBit_eq fun k=>by
 rw [Bool.eq_iff_iff]
 exact ⟨h1 k,h2 k⟩
theorem Acx:∀{bs:List Nat},(bs.Pairwise fun a b=>a&&&b=0)->∀{a b},a∈bs->b∈bs->a≠b->a&&&b=0
 | c :: bs,h,a,b,ha,hb,hn=>by
  rw [List.pairwise_cons] at h
  rcases Zg_.mp ha with rfl | ha'
  ·rcases Zg_.mp hb with rfl | hb'
   ·exact absurd rfl hn
   ·exact h.1 b hb'
  ·rcases Zg_.mp hb with rfl | hb'
   ·exact T8 (h.1 a ha')
   ·exact Acx h.2 ha' hb' hn
theorem Good.nodup {m fx:Nat} {bs:List Nat} (g:Good m fx bs):bs.Nodup:=by
 refine g.pw.imp_of_mem fun {a b} ha hb h e=>?_
 subst e
 rw [Nat.and_self] at h
 have:=g.pos a ha
 omega
structure Blocks (m:Nat) (rs:List RD) (x fx:Nat) (bs:List Nat):Prop where
 good:Good m fx bs
 kept:∀b∈bs,I0 m rs b
 apart:∀b∈bs,Fc x b
 holds:∀d,I0 m rs d->Fc x d->∃b∈bs,T4 d b
theorem Run.blocks {rs:List RD} {m x:Nat} {s:US} (hx:x < 2 ^ m) (R:Run rs ⟨x,E6 m x,[]⟩ s):Blocks m rs x s.fx s.bs:=
 ⟨(R.good (m:=m) (Good.begin hx)).1,fun b hb=>R.kept hx hb,fun b hb=>Vj (R.apart0 hx hb),fun d hd ha=>R.holds hx hd ha⟩
theorem Blocks.one {m x fx:Nat} {rs:List RD} {bs:List Nat} (B:Blocks m rs x fx bs) {b c:Nat} (hb:b∈bs) (hc:c∈bs) (h:T4 b c):b=c:=by
 by_cases e:b=c
 ·exact e
 ·exfalso
  have:=Acx B.good.pw hb hc e
  obtain ⟨k,hk⟩:=Y1 (a:=b) (by have:=B.good.pos b hb; omega)
  have h2:=dis_iff.mp this k hk
  rw [h k hk] at h2; cases h2
theorem Blocks.mem {m x fx:Nat} {rs:List RD} {bs:List Nat} (B:Blocks m rs x fx bs) {b:Nat}:b∈bs↔I0 m rs b/\Fc x b/\∀d,I0 m rs d->Fc x d->T4 b d->T4 d b:=by
 constructor
 ·intro hb
  refine ⟨B.kept b hb,B.apart b hb,fun d hd ha hs=>?_⟩
  obtain ⟨c,hc,hs2⟩:=B.holds d hd ha
  have e:=B.one hb hc fun k hk=>hs2 k (hs k hk)
  rw [e]; exact hs2
 ·rintro ⟨hk,ha,hm⟩
  obtain ⟨c,hc,hs⟩:=B.holds b hk ha
  have:=hm c (B.kept c hc) (B.apart c hc) hs
  rw [Ae3 hs this]; exact hc
theorem Blocks.fix {m x fx:Nat} {rs:List RD} {bs:List Nat} (B:Blocks m rs x fx bs) {k:Nat}:D5 fx k↔k < m/\∀d,I0 m rs d->Fc x d->¬D5 d k:=by
 unfold D5
 rw [B.good.col]
 constructor
 ·rintro ⟨h1,h2⟩
  refine ⟨h1,fun d hd ha hk=>?_⟩
  obtain ⟨b,hb,hs⟩:=B.holds d hd ha
  have:=hs k hk
  rw [h2 b hb] at this; cases this
 ·rintro ⟨h1,h2⟩
  refine ⟨h1,fun b hb=>?_⟩
  cases e:b.testBit k with
  | false=>rfl
  | true=>exact absurd e (h2 b (B.kept b hb) (B.apart b hb))
theorem Blocks.same {m x fx fx':Nat} {rs rs':List RD} {bs bs':List Nat} (B:Blocks m rs x fx bs) (B':Blocks m rs' x fx' bs') (h:∀d,I0 m rs d↔I0 m rs' d):fx=fx'/\bs.Perm bs':=by
 constructor
 ·refine Nat.eq_of_testBit_eq fun k=>?_
  rw [Bool.eq_iff_iff]
  show D5 fx k↔D5 fx' k
  rw [B.fix,B'.fix]
  exact ⟨fun ⟨a,b⟩=>⟨a,fun d hd=>b d ((h d).mpr hd)⟩,fun ⟨a,b⟩=>⟨a,fun d hd=>b d ((h d).mp hd)⟩⟩
 ·rw [List.perm_ext_iff_of_nodup B.good.nodup B'.good.nodup]
  intro b
  rw [B.mem,B'.mem,h b]
  exact ⟨fun ⟨a,c,e⟩=>⟨a,c,fun d hd=>e d ((h d).mpr hd)⟩,fun ⟨a,c,e⟩=>⟨a,c,fun d hd=>e d ((h d).mp hd)⟩⟩
end L2
namespace L2
open PySem PySem.Spec PyProof.Rows
noncomputable def ynS (b:Bool):Str:=if b=true then "yes" else "no"
theorem Afe (b:Bool):decide (V.str (ynS b)=V.str "yes")=b:=by
 cases b with
 | true=>exact Zr_ rfl
 | false=>exact decide_eq_false (by intro z; injection z with z; revert z; decide)
noncomputable def Zv (K:Θf):Sp:=fun vs H Q _=>∃(m:Nat) (rl r:Addr) (rs:List Rl) (st:Bool) (x y:Nat),vs=[vN m,.ref rl,.ref r]/\m<=7/\x < 2 ^ m/\SqL K H rl (rs.map fun r=>V.ref r.r)/\RulesAt H m rs/\rs.length<=200/\E4 H r st x y/\
 ∀(b:Bool) (t:Addr) (v:V) (H':Hp),(b=true↔Q1 m (rs.map Rl.d) st x y)->Same H H'->H' t=some (.tup [.str (ynS b),v])->Q (.ref t) H'
theorem Wg {K:Θf} (vs:List V) (H:Hp) (Q:VK) (E:XK) (h:Zv K vs H Q E):Di K vs H Q E:=by
 obtain ⟨m,rl,r,rs,st,x,y,rfl,m7,hx,hrl,hRs,lr,hR,q⟩:=h
 refine ⟨m,rl,r,rs,st,x,y,rfl,m7,hx,hrl,hRs,lr,hR,fun s t qa sw H1 R hn s1 ht ht1 hq hq1 st1 e1 l1=>?_,fun s b t H1 R hb s1 ht ht1=>?_⟩
 ·exact q true t _ H1 ⟨fun _=>(Dv hx R).mp hn,fun _=>rfl⟩ s1 ht1
 ·refine q false t _ H1 ⟨fun z=>absurd z Zf_,fun z=>?_⟩ s1 ht1
  rw [(Dv hx R).mpr z] at hb; cases hb
end L2
namespace L2
theorem We {m:Nat} {rs os:List RD} (h:∀d,I0 m rs d↔I0 m os d) {st:Bool} {x y:Nat}:Q1 m rs st x y↔Q1 m os st x y:=
 ⟨fun z d hd=>z d ((h d).mpr hd),fun z d hd=>z d ((h d).mp hd)⟩
theorem Wf {m:Nat} {rs:List RD} {x x' y:Nat} {st:Bool} (h:Q1 m rs st x y) (s:∀k,D5 x k->D5 x' k):Q1 m rs st x' y:=fun d hd=>not_us.mpr fun a b c=>not_us.mp (h d hd) (fun k h1 h2=>a k h1 (s k h2)) b c
theorem Aco {x x' y d:Nat} {st:Bool} (h:usB (st,x,y) d=false) (s:∀k,D5 x k->D5 x' k):usB (st,x',y) d=false:=not_us.mpr fun a b c=>not_us.mp h (fun k h1 h2=>a k h1 (s k h2)) b c
theorem Wx {m i:Nat} {rs:List RD} {r r':RD} (hi:rs[i]? = some r) (hf:Q1 m rs r'.1 r'.2.1 r'.2.2) (hg:∀d,usB r' d=false->usB r d=false) (d:Nat):I0 m rs d↔I0 m (rs.set i r') d:=by
 have hl:i < rs.length:=(Ze_.mp hi).1
 have er:rs[i]=r:=(Ze_.mp hi).2
 constructor
 ·intro z
  refine ⟨z.1,z.2.1,fun q hq=>?_⟩
  rcases List.mem_or_eq_of_mem_set hq with h | h
  ·exact z.2.2 q h
  ·rw [h]; exact hf d z
 ·intro z
  refine ⟨z.1,z.2.1,fun q hq=>?_⟩
  obtain ⟨j,hj,rfl⟩:=List.getElem_of_mem hq
  by_cases e:i=j
  ·subst e
   rw [er]
   refine hg d (z.2.2 r' ?_)
   exact List.mem_iff_getElem.mpr ⟨i,by rw [List.length_set]; exact hj,by rw [List.getElem_set_self]⟩
  ·refine z.2.2 _ (List.mem_iff_getElem.mpr ⟨j,by rw [List.length_set]; exact hj,by rw [List.getElem_set_ne e]⟩)
theorem Od {m i:Nat} {rs:List RD} {r:RD} (hi:rs[i]? = some r) (hf:Q1 m (rs.eraseIdx i) r.1 r.2.1 r.2.2) (d:Nat):I0 m rs d↔I0 m (rs.eraseIdx i) d:=by
 have hl:i < rs.length:=(Ze_.mp hi).1
 have er:rs[i]=r:=(Ze_.mp hi).2
 have hm:∀q,q∈rs->q=r\/q∈rs.eraseIdx i:=fun q hq=>by
  rw [List.eraseIdx_eq_take_drop_succ]
  have e:rs=rs.take i++rs[i] :: rs.drop (i + 1):=by rw [<-List.drop_eq_getElem_cons hl,List.take_append_drop]
  rw [e] at hq
  rcases Θa hq with h | h
  ·exact .inr (Zt_ _ h)
  ·rcases Zg_.mp h with h | h
   ·exact .inl (h.trans er)
   ·exact .inr (Zh_ _ h)
 constructor
 ·exact fun z=>⟨z.1,z.2.1,fun q hq=>z.2.2 q (List.mem_of_mem_eraseIdx hq)⟩
 ·intro z
  refine ⟨z.1,z.2.1,fun q hq=>?_⟩
  rcases hm q hq with h | h
  ·rw [h]; exact hf d z
  ·exact z.2.2 q h
theorem Tc {m:Nat} {rs os:List RD} (h:∀r∈os,r∈rs) {st:Bool} {x y:Nat} (f:Q1 m os st x y):Q1 m rs st x y:=fun d hd=>f d ⟨hd.1,hd.2.1,fun r hr=>hd.2.2 r (h r hr)⟩
noncomputable def L0 (x c:Nat):Nat:=x - (x&&&2 ^ c)
theorem P6 (x c k:Nat):D5 (L0 x c) k↔D5 x k/\c≠k:=by
 unfold L0
 rw [W7]
 have:D5 (2 ^ c) k↔c=k:=by unfold D5; rw [Nat.testBit_two_pow,decide_eq_true_iff]
 rw [this]
noncomputable def Z0 (C:Nat->List Nat) (r:RD):List RD:=(C (r.2.2 - (r.2.2&&&r.2.1))).map fun c=>(true,r.2.1,2 ^ c)
noncomputable def I8 (C:Nat->List Nat) (rs:List RD):List RD:=(rs.filter fun r=>r.1).flatMap (Z0 C)++rs.filter fun r=>!r.1
theorem Fn {α:Type} {l:List α} {i j:Nat}:(l.eraseIdx i)[j]? = if j < i then l[j]? else l[j + 1]?:=List.getElem?_eraseIdx
theorem Adk {α:Type} {l:List α} {i j:Nat} (h:j < i) {q:α} (hq:q∈(l.eraseIdx i).eraseIdx j):q∈l.eraseIdx j:=by
 obtain ⟨p,hp⟩:=List.getElem?_of_mem hq
 rw [Fn] at hp
 have go:∀n,n≠j->l[n]? = some q->q∈l.eraseIdx j:=fun n hn e=>by
  by_cases z:n < j
  ·exact Θe (i:=n) (by rw [Fn,if_pos z]; exact e)
  ·refine Θe (i:=n - 1) ?_
   rw [Fn,if_neg (by omega),show n - 1 + 1=n by omega]
   exact e
 by_cases z:p < j
 ·rw [if_pos z,Fn,if_pos (by omega)] at hp
  exact go p (by omega) hp
 ·rw [if_neg z,Fn] at hp
  by_cases w:p + 1 < i
  ·rw [if_pos w] at hp
   exact go (p + 1) (by omega) hp
  ·rw [if_neg w] at hp
   exact go (p + 2) (by omega) hp
structure LeastP (m:Nat) (rs ls:List RD):Prop where
 kept:∀d,I0 m rs d↔I0 m ls d
 len:ls.length=rs.length
 each:∀(i:Nat) (l r:RD),ls[i]? = some l->rs[i]? = some r->l.1=r.1/\l.2.2=r.2.2/\(∀k,D5 l.2.1 k->D5 r.2.1 k)/\(l.1=false->l=r)/\(l.1=true->∀c,D5 l.2.1 c->¬Q1 m rs true (L0 l.2.1 c) l.2.2)
structure NeedP (m:Nat) (rs cs:List RD):Prop where
 kept:∀d,I0 m rs d↔I0 m cs d
 sub:cs.Sublist rs
 each:∀(i:Nat) (r:RD),cs[i]? = some r->¬Q1 m (cs.eraseIdx i) r.1 r.2.1 r.2.2
open PySem PySem.Spec PyProof.Rows
theorem Sz:∀a,a < 128->(D4 a).length<=7:=by decide +kernel
theorem Vr:∀a,a < 128->∀k,k < 8->(k∈D4 a↔a.testBit k=true):=by decide +kernel
theorem O3 {a:Nat} (ha:a < 128) (k:Nat):k∈D4 a↔D5 a k:=by
 by_cases hk:k < 8
 ·exact Vr a ha k hk
 ·constructor
  ·intro h
   have h1:=List.mem_range.mp (List.mem_filter.mp h).1
   have h2:Ff a<=7:=by
    unfold Ff Builtin.Int.intBits
    split
    ·omega
    ·rename_i z
     have h0:a≠0:=by intro e; subst e; exact z rfl
     have:a.log2 < 7:=(Nat.log2_lt h0).mpr ha
     show (a:Int).natAbs.log2 + 1<=7
     rw [Int.natAbs_natCast]
     omega
   omega
  ·intro h
   have:=V3 (m:=7) ha h
   omega
noncomputable def Pt (K:Θf):Sp:=fun vs H Q _=>∃(m:Nat) (rl r:Addr) (rs:List Rl) (st:Bool) (x y:Nat),vs=[vN m,.ref rl,.ref r]/\m<=7/\x < 2 ^ m/\SqL K H rl (rs.map fun r=>V.ref r.r)/\RulesAt H m rs/\rs.length<=200/\E4 H r st x y/\
 ∀(b:Bool) (H':Hp),(b=true↔Q1 m (rs.map Rl.d) st x y)->Same H H'->Q (.bl b) H'
noncomputable def Ng (K:Θf):Sp:=fun vs H Q _=>∃(m:Nat) (rl:Addr) (rs:List Rl),vs=[.ref rl]/\m<=7/\SqL K H rl (rs.map fun r=>V.ref r.r)/\RulesAt H m rs/\rs.length<=20/\
 ∀(ss:List Rl) (p:Addr) (H':Hp),ss.map Rl.d=I8 D4 (rs.map Rl.d)->RulesAt H' m ss->ss.length<=160->Same H H'->H p=none->H' p=some (.lst (ss.map fun r=>V.ref r.r))->Q (.ref p) H'
noncomputable def Lb (m:Nat) (rs:List RD) (l r:RD) (cs:List Nat):Prop:=l.1=r.1/\l.2.2=r.2.2/\(∀k,D5 l.2.1 k->D5 r.2.1 k)/\(l.1=false->l=r)/\(l.1=true->∀c∈cs,D5 l.2.1 c->¬Q1 m rs true (L0 l.2.1 c) l.2.2)
end L2
namespace L2
open PySem PySem.Spec PyProof.Rows
section
variable {prog:Program} {w:World} {A:Around} {E:Value->Shared->Prop} {s:Shared} {a₀:Array Keyed} {κ:KeyKind}
end
section
variable {X:Cx} {K:Θf}
end
section
variable {X:Cx} {K:Θf}
end
noncomputable def Agt (m:Nat) (rs:List RD) (r:RD):Prop:=(r.1=false->r∈rs)/\(r.1=true->∃c,c < m/\r.2.2=2 ^ c/\r.2.1&&&r.2.2=0)
theorem Kt {m:Nat} (m7:m<=7) {rs:List RD} (hb:∀r∈rs,r.2.2 < 2 ^ m) {r:RD} (h:r∈I8 D4 rs):(r.1=false->r∈rs)/\(r.1=true->∃c,c < m/\r.2.2=2 ^ c/\¬D5 r.2.1 c):=by
 rcases Θa h with h | h
 ·obtain ⟨r0,h0,h1⟩:=List.mem_flatMap.mp h
  obtain ⟨c,hc,rfl⟩:=Θn h1
  refine ⟨fun z=>absurd (show true=false from z) (by decide),fun _=>⟨c,?_,rfl,?_⟩⟩
  ·have hr:=hb r0 (List.mem_filter.mp h0).1
   have hlt:r0.2.2 - (r0.2.2&&&r0.2.1) < 2 ^ m:=by omega
   have:=(O3 (Zq_ hlt (W4 m7)) c).mp hc
   exact V3 hlt this
  ·have hr:=hb r0 (List.mem_filter.mp h0).1
   have hlt:r0.2.2 - (r0.2.2&&&r0.2.1) < 2 ^ m:=by omega
   have:=(O3 (Zq_ hlt (W4 m7)) c).mp hc
   exact ((W7 _ _ _).mp this).2
 ·obtain ⟨h1,h2⟩:=List.mem_filter.mp h
  refine ⟨fun _=>h1,fun z=>?_⟩
  rw [z] at h2; cases h2
theorem Ae {m:Nat} (m7:m<=7) {rs ls cs:List RD} (hb:∀r∈rs,r.2.2 < 2 ^ m) (LP:LeastP m (I8 D4 rs) ls) (NP:NeedP m ls cs) {r:RD} (h:r∈cs):Agt m rs r:=by
 have hm:=NP.sub.subset h
 obtain ⟨i,hi⟩:=List.getElem?_of_mem hm
 have hi':i < (I8 D4 rs).length:=by have:=(Ze_.mp hi).1; rw [LP.len] at this; exact this
 obtain ⟨e1,e2,e3,e4,_⟩:=LP.each i r (I8 D4 rs)[i] hi (Θh hi')
 have hs:=Kt m7 hb (List.getElem_mem hi')
 refine ⟨fun z=>?_,fun z=>?_⟩
 ·rw [e4 z]; exact hs.1 (by rw [<-e1]; exact z)
 ·obtain ⟨c,hc,ec,nc⟩:=hs.2 (by rw [<-e1]; exact z)
  refine ⟨c,hc,e2.trans ec,?_⟩
  rw [e2,ec]
  refine Nat.eq_of_testBit_eq fun j=>?_
  rw [Nat.testBit_and,Nat.zero_testBit,Nat.testBit_two_pow]
  by_cases w:c=j
  ·subst w
   have:r.2.1.testBit c=false:=by
    cases z:r.2.1.testBit c with
    | false=>rfl
    | true=>exact absurd (e3 c z) nc
   rw [this]; rfl
  ·rw [decide_eq_false w,Bool.and_false]
end L2
namespace L2
open PySem PySem.Spec PyProof.Rows
open Classical in
noncomputable def Q8 (m i:Nat) (ls:List RD) (c:Nat):List RD:=if Q1 m ls true (L0 (N6 ls i).2.1 c) (N6 ls i).2.2 then ls.set i (true,L0 (N6 ls i).2.1 c,(N6 ls i).2.2) else ls
noncomputable def M3 (m i:Nat) (ls:List RD) (cs:List Nat):List RD:=cs.foldl (Q8 m i) ls
noncomputable def L7 (m:Nat) (rs:List RD) (n:Nat):List RD:=(List.range n).foldl (fun l i=>if (N6 rs i).1=true then M3 m i l (D4 (N6 rs i).2.1) else l) rs
open Classical in
noncomputable def Q4 (m:Nat):List RD->List RD->List RD
 | kept,[]=>kept
 | kept,r :: rest=>if Q1 m (kept++rest) r.1 r.2.1 r.2.2 then Q4 m kept rest else Q4 m (kept++[r]) rest
noncomputable def L1 (m:Nat) (rs:List RD):List RD:=Q4 m [] (L7 m (I8 D4 rs) (I8 D4 rs).length)
theorem Iz {m i c:Nat} {ls:List RD} (h:Q1 m ls true (L0 (N6 ls i).2.1 c) (N6 ls i).2.2):Q8 m i ls c=ls.set i (true,L0 (N6 ls i).2.1 c,(N6 ls i).2.2):=by unfold Q8; rw [if_pos h]
theorem Nh {m i c:Nat} {ls:List RD} (h:¬Q1 m ls true (L0 (N6 ls i).2.1 c) (N6 ls i).2.2):Q8 m i ls c=ls:=by unfold Q8; rw [if_neg h]
theorem Bh (m i:Nat) (ls:List RD) (cs:List Nat) (c:Nat):M3 m i ls (cs++[c])=Q8 m i (M3 m i ls cs) c:=by unfold M3; rw [List.foldl_append]; rfl
theorem P1 (m:Nat) (rs:List RD) (n:Nat):L7 m rs (n + 1)=if (N6 rs n).1=true then M3 m n (L7 m rs n) (D4 (N6 rs n).2.1) else L7 m rs n:=by
 unfold L7
 rw [List.range_succ,List.foldl_append]; rfl
theorem Ih {m:Nat} {k rest:List RD} {r:RD} (h:Q1 m (k++rest) r.1 r.2.1 r.2.2):Q4 m k (r :: rest)=Q4 m k rest:=by rw [Q4,if_pos h]
theorem Mf {m:Nat} {k rest:List RD} {r:RD} (h:¬Q1 m (k++rest) r.1 r.2.1 r.2.2):Q4 m k (r :: rest)=Q4 m (k++[r]) rest:=by rw [Q4,if_neg h]
theorem Eu {rs:List RD} {i:Nat} {r:RD} (h:rs[i]? = some r):N6 rs i=r:=by unfold N6; rw [List.getD_eq_getElem?_getD,h]; rfl
theorem Uz (m i:Nat) (ls:List RD) (c:Nat):(Q8 m i ls c).length=ls.length:=by
 unfold Q8; split
 ·rw [List.length_set]
 ·rfl
theorem Uy {m i j:Nat} {ls:List RD} {c:Nat} (h:i≠j):(Q8 m i ls c)[j]? = ls[j]?:=by
 unfold Q8; split
 ·rw [List.getElem?_set_ne h]
 ·rfl
theorem Dx (m i:Nat):∀(cs:List Nat) (ls:List RD),(M3 m i ls cs).length=ls.length
 | [],ls=>rfl
 | c :: cs,ls=>by show (M3 m i (Q8 m i ls c) cs).length=_; rw [Dx m i cs,Uz]
theorem W9 {m i j:Nat} (h:i≠j):∀(cs:List Nat) (ls:List RD),(M3 m i ls cs)[j]? = ls[j]?
 | [],ls=>rfl
 | c :: cs,ls=>by show (M3 m i (Q8 m i ls c) cs)[j]? = _; rw [W9 h cs,Uy h]
theorem X0 (m:Nat) (rs:List RD):∀n,(L7 m rs n).length=rs.length
 | 0=>rfl
 | n + 1=>by
  rw [P1]; split
  ·rw [Dx,X0 m rs n]
  ·exact X0 m rs n
theorem S7 (m:Nat) (rs:List RD):∀n j,n<=j->(L7 m rs n)[j]? = rs[j]?
 | 0,j,_=>rfl
 | n + 1,j,h=>by
  rw [P1]; split
  ·rw [W9 (by omega),S7 m rs n j (by omega)]
  ·exact S7 m rs n j (by omega)
end L2
namespace L2
open PySem PySem.Spec PyProof.Rows
section
variable {X:Cx} {pins:List (Addr × Obj)} {σ:St} {H:Hp} {s:Shared}
end
structure LCoreX (H:Hp) (m n:Nat) (ls:List Rl) (p:Addr) (H':Hp):Prop where
 same:Same H H'
 hp0:H p=none
 hp:H' p=some (.lst (ls.map fun r=>V.ref r.r))
 at_:RulesAt H' m ls
 len:ls.length=n
theorem LCoreX.mono {H H' H'':Hp} {m n:Nat} {ls:List Rl} {p:Addr} (c:LCoreX H m n ls p H') (e:Same H' H''):LCoreX H m n ls p H'':=
 ⟨c.same.trans e,c.hp0,e _ _ c.hp,c.at_.same e,c.len⟩
theorem LCoreX.put {H H':Hp} {m n i:Nat} {ls:List Rl} {p sp:Addr} {st:Bool} {x y:Nat} (c:LCoreX H m n ls p H') (hsp:E4 H' sp st x y) (hx:x < 2 ^ m) (hy:y < 2 ^ m):LCoreX H m n (ls.set i ⟨sp,st,x,y⟩) p (upd H' p (.lst ((ls.set i ⟨sp,st,x,y⟩).map fun r=>V.ref r.r))):=by
 refine ⟨c.same.own c.hp0,c.hp0,A3,fun r hr=>?_,by rw [List.length_set]; exact c.len⟩
 rcases List.mem_or_eq_of_mem_set hr with h | h
 ·exact (c.at_.put c.hp) r h
 ·rw [h]
  refine ⟨?_,hx,hy⟩
  show upd _ _ _ sp=_
  rw [C6 (Eb hsp c.hp (by intro z; cases z))]
  exact hsp
noncomputable def Nc (K:Θf):Sp:=fun vs H Q _=>∃(m:Nat) (rl:Addr) (rs:List Rl),vs=[vN m,.ref rl]/\m<=7/\SqL K H rl (rs.map fun r=>V.ref r.r)/\RulesAt H m rs/\rs.length<=160/\
 ∀(ls:List Rl) (p:Addr) (H':Hp),ls.map Rl.d=L7 m (rs.map Rl.d) rs.length->RulesAt H' m ls->ls.length<=160->Same H H'->H p=none->H' p=some (.lst (ls.map fun r=>V.ref r.r))->Q (.ref p) H'
noncomputable def Rv (K:Θf):Sp:=fun vs H Q _=>∃(m:Nat) (rl:Addr) (rs:List Rl),vs=[vN m,.ref rl]/\m<=7/\SqL K H rl (rs.map fun r=>V.ref r.r)/\RulesAt H m rs/\rs.length<=160/\
 ∀(cs:List Rl) (p:Addr) (H':Hp),cs.map Rl.d=Q4 m [] (rs.map Rl.d)->RulesAt H' m cs->cs.length<=160->Same H H'->H p=none->H' p=some (.lst (cs.map fun r=>V.ref r.r))->Q (.ref p) H'
noncomputable def Gq (K:Θf):Sp:=fun vs H Q _=>∃(m:Nat) (rl:Addr) (rs:List Rl),vs=[vN m,.ref rl]/\m<=7/\SqL K H rl (rs.map fun r=>V.ref r.r)/\RulesAt H m rs/\rs.length<=20/\
 ∀(ks:List Rl) (p:Addr) (H':Hp),ks.map Rl.d=L1 m (rs.map Rl.d)->RulesAt H' m ks->ks.length<=160->Same H H'->H p=none->H' p=some (.lst (ks.map fun r=>V.ref r.r))->Q (.ref p) H'
theorem Af {α:Type} {l:List α} {i:Nat} (h:i < l.length):(l.eraseIdx i).take i=l.take i/\(l.eraseIdx i).drop i=l.drop (i + 1):=by
 have e:(l.take i).length=i:=by rw [ZB]; omega
 rw [List.eraseIdx_eq_take_drop_succ]
 exact ⟨List.take_left' e,List.drop_left' e⟩
theorem Me {m i:Nat} {ls:List RD} {r:RD} (h:ls[i]? = some r):(Q1 m (ls.eraseIdx i) r.1 r.2.1 r.2.2->Q4 m (ls.take i) (ls.drop i)=Q4 m ((ls.eraseIdx i).take i) ((ls.eraseIdx i).drop i))/\(¬Q1 m (ls.eraseIdx i) r.1 r.2.1 r.2.2->Q4 m (ls.take i) (ls.drop i)=Q4 m (ls.take (i + 1)) (ls.drop (i + 1))):=by
 obtain ⟨hi,e⟩:=Ze_.mp h
 have ed:ls.drop i=r :: ls.drop (i + 1):=by rw [List.drop_eq_getElem_cons hi,e]
 have et:ls.take (i + 1)=ls.take i++[r]:=by rw [List.take_succ,h]; rfl
 constructor
 ·intro f
  rw [(Af hi).1,(Af hi).2,ed]
  rw [List.eraseIdx_eq_take_drop_succ] at f
  exact Ih f
 ·intro f
  rw [ed,et]
  rw [List.eraseIdx_eq_take_drop_succ] at f
  exact Mf f
section
variable {K:Θf} {H H1 H2:Hp} {st g p:Addr} {ns:List Int} {m k k':Nat} {rs rs':List Rl} {o:HO} {ys:List V}
end
theorem Qi {a b:Nat} (h:∀k,D5 a k↔D5 b k):a=b:=Nat.eq_of_testBit_eq fun k=>by
 rw [Bool.eq_iff_iff]; exact h k
noncomputable def Z7 (x y b:Nat):Bool:=!decide (b&&&x=b) && !decide (b&&&y=b)
noncomputable def Afh (H:Hp) (x y:Nat) (s:US) (t:Addr):Prop:=
 (∃b,s.bs.find? (Z7 x y)=some b/\H t=some (.tup [.str "unsafe",vN b]))\/
 (s.bs.find? (Z7 x y)=none/\∃(q:Addr) (sw:List SW),H q=some (.lst (sw.map fun w=>V.ref w.1))/\StepsAt H sw/\sw.map (·.2)=s.st/\sw.length<=300/\H t=some (.tup [.str "safe",.ref q]))
noncomputable def Zz (K:Θf):Sp:=fun vs H Q _=>∃(l:Addr) (x y:Nat) (bs:List Nat),vs=[.ref l,vN x,vN y]/\SqL K H l (bs.map vN)/\
 (bs.find? (Z7 x y)=none->Q .non H)/\∀b,bs.find? (Z7 x y)=some b->Q (vN b) H
noncomputable def Ac0 (K:Θf) (a:Nat->V):Sp:=fun vs H Q _=>∃(m x y:Nat) (rl:Addr) (rs:List Rl),vs=[a m,.ref rl,vN x,vN y]/\m<=7/\x < 2 ^ m/\y < 2 ^ m/\x|||y=2 ^ m - 1/\SqL K H rl (rs.map fun r=>V.ref r.r)/\RulesAt H m rs/\rs.length<=200/\
 ∀(s:US) (t:Addr) (H':Hp),Run (rs.map Rl.d) ⟨x&&&y,E6 m (x&&&y),[]⟩ s->Same H H'->Afh H' x y s t->(∀q,H' t=some (.tup [.str "safe",.ref q])->H q=none)->Q (.ref t) H'
theorem Wp {P:Program} {w:World} {H:Hp} {h:Heap} {a:Addr} {o:HO} (x:ObjOk P w H h a o):∃ob,h.get? a=some ob:=by
 cases o with
 | lst xs=>obtain ⟨_,_,_,_,e⟩:=x; exact ⟨_,e⟩
 | tup xs=>obtain ⟨_,_,_,ob,e,_⟩:=x; exact ⟨_,e⟩
 | dK kvs=>obtain ⟨_,_,_,_,o,_,_,e,_⟩:=x; exact ⟨_,e⟩
 | dT kvs=>obtain ⟨_,_,_,_,o,_,_,e,_⟩:=x; exact ⟨_,e⟩
 | set S n=>obtain ⟨o,_,_,_,e,_⟩:=x; exact ⟨_,e⟩
 | ins C dx fs=>obtain ⟨_,_,_,e,_⟩:=x; exact ⟨_,e⟩
 | own y=>exact x
 | xd fs=>obtain ⟨_,⟨_,_,_,e,_⟩,_⟩:=x; exact ⟨_,e⟩
 | rng lo hi=>obtain ⟨_,_,_,e⟩:=x; exact ⟨_,e⟩
 | frz ob u=>exact ⟨_,x.1⟩
 | tbl ps=>exact ⟨_,x⟩
 | met f y=>exact ⟨_,x⟩
 | ext φ=>exact x.2.1
structure Fly (P:Program) (w:World) (outer:List Env) (H H':Hp) (s s':Shared) (ea C:Addr) (B:Heap):Prop where
 os:s'.os=s.os
 bare:AllBare s'.gens
 un:Un (frs outer) [] H H' s.heap s'.heap
 hok:HOk P w H' B
 inB:∀b o,s.heap.get? b=some o->H b=none->b∉frs outer->B.get? b=some o
 ex:∀b o,s.heap.get? b=some o->b∉frs outer->∃o',B.get? b=some o'
 fly:∃a0,Heap.FlyingW B outer ea (.ref C) a0 s'.heap
theorem Fly.fresh {P:Program} {w:World} {outer:List Env} {H H':Hp} {s s':Shared} {ea C:Addr} {B:Heap} (F:Fly P w outer H H' s s' ea C B):H' ea=none:=by
 obtain ⟨a0,f⟩:=F.fly
 cases q:H' ea with
 | none=>rfl
 | some o=>
  obtain ⟨ob,e⟩:=Wp (F.hok ea o q)
  rw [f.2.1] at e
  cases e
noncomputable def CX1 (P:Program) (w:World):CXT:=fun outer H s E e s'=>∃ea C B H',e = .ref ea/\Fly P w outer H H' s s' ea C B/\E (.ref C) none H'
section
variable {P:Program} {w:World} {K:Θf} {mg:Str->Option Value} {base:Heap} {N:List Str} {qual:Str} {scope:Scope} {f:Addr} {cd:Value} {A:Around} {outer:List Env} {s₀:Shared} {H₀:Hp} {E E':XK}
theorem Ls {env:Env} {L:Addr} {l:List Env} (h:env.frame=some L):frs (env :: l)=L :: frs l:=by
 unfold frs
 rw [List.filterMap_cons,h]
theorem R3 {pins:List (Addr × Obj)} {σ:St} {H:Hp} {s:Shared} {h':Heap} {e C:Addr} {vs:List Value} (I:Inv (Fl (CX1 P w) P w K mg base N qual scope f cd A outer s₀ H₀ E) pins σ H s)
  (hx:Heap.MadeExcOf s.heap h' e (.ref C) vs) (hE:E (.ref C) none H):(Fl (CX1 P w) P w K mg base N qual scope f cd A outer s₀ H₀ E).xe (.ref e) { s with heap:=h' }:=by
 have hf:(envOfC qual scope s₀.heap.objs.size f cd).frame=some s₀.heap.objs.size:=rfl
 have hfr:(A.deeper (envOfC qual scope s₀.heap.objs.size f cd)).frames=some (envOfC qual scope s₀.heap.objs.size f cd :: outer):=I.ok.frames
 have hst:s.heap.FunFrames base (envOfC qual scope s₀.heap.objs.size f cd :: outer):=I.stack
 have hl:=PySem.W.funFrames_hide (as:=frs (envOfC qual scope s₀.heap.objs.size f cd :: outer)) hst fun env he b hb=>List.mem_filterMap.mpr ⟨env,he,hb⟩
 have nin:∀b o,s₀.heap.get? b=some o->b∉frs outer->b∉frs (envOfC qual scope s₀.heap.objs.size f cd :: outer):=fun b o q hb hm=>by
  rw [Ls hf] at hm
  rcases Zg_.mp hm with z | z
  ·exact absurd (Zn_ q) (by rw [z]; exact Nat.lt_irrefl _)
  ·exact hb z
 refine wpAny_leaves_madeW (s:={ s with heap:=h' }) hfr hf (fun b o q=>PySem.W.of_hideAll _ q) hl hx fun h2 t x1 x2 x3 x4=>?_
 have base0:Un (frs outer) [] H₀ H s₀.heap s.heap:=I.base
 have slot:∀b o,s₀.heap.get? b=some o->H₀ b=none->b∈frs outer->∃sl,h2.get? b=some { o with slots:=sl }:=fun b o q n hb=>by
  obtain ⟨sl,e1⟩:=base0.slot b o q n hb (by simp)
  obtain ⟨_,o',e2,hd⟩:=I.ok.funs.mem hb
  have q':s₀.heap.get? b=some o':=e2
  rw [q] at q'
  cases q'
  obtain ⟨sl',e3⟩:=x4 b _ (hx.keeps _ _ e1) hd
  exact ⟨sl',e3⟩
 refine ⟨e,C,_,H,rfl,⟨I.os,I.bare,⟨fun b o q n hb hx'=>?_,fun b o q n hb _=>slot b o q n hb,base0.free,fun b o q hx'=>?_,base0.tups,base0.frzs,base0.tbls⟩,fun a o q=>?_,fun b o q n hb=>?_,fun b o q hb=>?_,⟨_,x1⟩⟩,hE⟩
 ·exact x1.1 b o (PySem.W.hideAll_get _ (base0.keep b o q n hb hx') (nin b o q hb))
 ·by_cases hb:b∈frs outer
  ·obtain ⟨sl,e1⟩:=slot b o q (I.ok.frf b hb) hb
   exact ⟨_,e1⟩
  ·obtain ⟨o',e1⟩:=base0.there b o q hx'
   exact ⟨o',x1.1 _ _ (PySem.W.hideAll_get _ e1 (nin b o q hb))⟩
 ·have nfr:∀b u,H b=some u->b∉frs (envOfC qual scope s₀.heap.objs.size f cd :: outer):=fun b u z hm=>by
   have:=I.stkFree b hm
   rw [z] at this
   cases this
  refine (I.hok a o q).stay (fun b u hb z=>PySem.W.hideAll_get _ z ?_) (fun _ z=>z) fun _ _ z=>z
  rcases hb with rfl | hb
  ·exact nfr _ _ q
  ·exact nfr _ _ hb
 ·exact PySem.W.hideAll_get _ (base0.keep b o q n hb (by simp)) (nin b o q hb)
 ·obtain ⟨o',e1⟩:=base0.there b o q (by simp)
  exact ⟨o',PySem.W.hideAll_get _ e1 (nin b o q hb)⟩
theorem Fly.over {X:Cx} {pins:List (Addr × Obj)} {σ:St} {H H':Hp} {s s':Shared} {ea C:Addr} {B h2:Heap} (I:Inv X pins σ H s) (F:Fly X.prog X.w X.stack H H' s s' ea C B) (k1:∀b o,B.get? b=some o->h2.get? b=some o) (k2:s'.heap.UpToSlots h2) :
  Un (frs X.stack) [] H H' s.heap h2:=by
 have slot:∀b o,s.heap.get? b=some o->H b=none->b∈frs X.stack->∃sl,h2.get? b=some { o with slots:=sl }:=fun b o q n hb=>by
  obtain ⟨sl,e1⟩:=F.un.slot b o q n hb (by simp)
  obtain ⟨_,o',e2,hd⟩:=I.stack.mem hb
  rw [q] at e2
  cases e2
  obtain ⟨sl',e3⟩:=k2 b _ e1 hd
  exact ⟨sl',e3⟩
 refine ⟨fun b o q n hb _=>k1 _ _ (F.inB b o q n hb),fun b o q n hb _=>slot b o q n hb,F.un.free,fun b o q _=>?_,F.un.tups,F.un.frzs,F.un.tbls⟩
 by_cases hb:b∈frs X.stack
 ·obtain ⟨sl,e1⟩:=slot b o q (I.stkFree b hb) hb
  exact ⟨_,e1⟩
 ·obtain ⟨o',e1⟩:=F.ex b o q hb
  exact ⟨o',k1 _ _ e1⟩
theorem Mp (hEE:∀c H,E c none H->E' c none H):Aa (CX1 P w) (Fl (CX1 P w) P w K mg base N qual scope f cd A outer s₀ H₀ E') E:=by
 rintro pins σ H s e s' I ⟨ea,C,B,H',rfl,F,hE⟩
 have hf:(envOfC qual scope s₀.heap.objs.size f cd).frame=some s₀.heap.objs.size:=rfl
 have hfr:(A.deeper (envOfC qual scope s₀.heap.objs.size f cd)).frames=some (envOfC qual scope s₀.heap.objs.size f cd :: outer):=I.ok.frames
 obtain ⟨a0,fl⟩:=F.fly
 refine wpAny_leaves_onW hfr hf fl fun h2 x1 x4=>?_
 have u:=F.over (h2:=h2) I x1.1 x4
 have J:Inv (Fl (CX1 P w) P w K mg base N qual scope f cd A outer s₀ H₀ E') pins σ H' { s' with heap:=h2 }:=I.call' (ch:=[]) F.os u (F.hok.kept x1.1) F.bare fun b hb=>absurd hb (by simp)
 have base0:Un (frs outer) [] H₀ H s₀.heap s.heap:=I.base
 have nin:∀b o,s₀.heap.get? b=some o->b∉frs outer->b∉frs (envOfC qual scope s₀.heap.objs.size f cd :: outer):=fun b o q hb hm=>by
  rw [Ls hf] at hm
  rcases Zg_.mp hm with z | z
  ·exact absurd (Zn_ q) (by rw [z]; exact Nat.lt_irrefl _)
  ·exact hb z
 refine ⟨ea,C,B,H',rfl,⟨F.os.trans I.os,F.bare,J.base,F.hok,fun b o q n hb=>?_,fun b o q hb=>?_,⟨a0,x1⟩⟩,hEE _ _ hE⟩
 ·exact F.inB b o (base0.keep b o q n hb (by simp)) (base0.free b o q n (by simp)) (nin b o q hb)
 ·obtain ⟨o',e1⟩:=base0.there b o q (by simp)
  exact F.ex b o' e1 (nin b o q hb)
end
theorem Acl {K:Θf} {mg:Str->Option Value} {base:Heap} (M:Mod K mg base) (p:Program):∃loose mb,PySem.W.TopRead p loose mg mb base:=by
 obtain ⟨mb,hb,hbb⟩:=M.blt
 obtain ⟨o,es,ep,ho,hd,hk,hf⟩:=id M.glob
 refine ⟨es.toList.filterMap fun e=>match e.key with | .str x _=>some x | _=>none,mb,⟨M.glob,hb,M.nolimit,hbb,fun x _ hx _ _ _=>?_⟩⟩
 rw [<-hf x]
 cases q:nsFind es x with
 | none=>rfl
 | some v=>
  exfalso
  unfold nsFind findBy at q
  obtain ⟨e,he,_⟩:=Option.map_eq_some_iff.mp q
  have h1:=Array.mem_of_find?_eq_some he
  have h2:=Array.find?_some he
  obtain ⟨n,t,ek⟩:=hk e h1
  rw [ek] at h2
  have h3:x=n:=by
   simp only [Value.isStr] at h2
   exact (beq_iff_eq.mp h2).symm
  refine hx (List.mem_filterMap.mpr ⟨e,Array.mem_toList_iff.mpr h1,?_⟩)
  rw [ek,h3]
structure Exc (K:Θf) (x:Str) (C:Addr):Prop where
 ns:PySem.W.nsIn K mainGlobals x=some (some (.ref C))
 ex:PySem.W.excIn K C [.type "ValueError",.type "Exception",.type "BaseException",.type "object"] "ValueError.__new__" = true
section
variable {X:Cx} {x:Str} {C:Addr} {np cpos pos:Pos} {e:Expr} {es:List Expr} {t:TA} {EX:XK}
noncomputable def Ae8 (EX:XK) (C:Addr) (t:TA):TS:=fun _ σ H=>t σ H fun vs H1=>vs.length<=sizeLine/\EX (.ref C) none H1
theorem U8 (O:Exc X.K x C) (hg:Gl X x) (hc:X.calm=true) (ha:PA X (e :: es) t)
  (hout:∀(pins:List (Addr × Obj)) (σ:St) (H:Hp) (s:Shared) (h':Heap) (ea:Addr) (vs:List Value),Inv X pins σ H s->Heap.MadeExcOf s.heap h' ea (.ref C) vs->EX (.ref C) none H->X.xe (.ref ea) { s with heap:=h' })
  (hdb:(x == ("__debug__":Str))=false:=by decide) (he:starEach (e :: es) X.env=(false,eval e X.env) :: starEach es X.env:=by rfl) (hpl:(backTo cpos (starEach es X.env)).any (·.1)=false:=by rfl) :
  PS X (.Raise (some (.Call (.Name x np) (e :: es) [] cpos)) none pos) (Ae8 EX C t):=by
 intro pins s σ H D I h
 obtain ⟨loose,mb,T⟩:=Acl I.ok.mod X.prog
 have W:=PySem.W.own_of_in I.ok.mod.kin T O.ns O.ex
 obtain ⟨tl,N,nm,q,bs,hdct,sn,sub,ab,col,dd,k0,k1,k2,k3,k5,mN,hC,hN,hni,TL⟩:=W.obj
 refine wpAny_Raise_call_subT (nm:=nm) (q:=q) (N:=N) (bs:=bs) (hdct:=hdct) (sn:=sn) (sub:=sub) (ab:=ab) (col:=col) (dd:=dd) (k0:=k0) (k1:=k1) (k2:=k2) (k3:=k3) (k5:=k5) PySem.F.excBase_ValueError (mN:=mN) (TL.hasType PySem.F.excBase_ValueError.hasBase) (I.ok.hd hc) (by rw [he]; show (false || (backTo cpos (starEach es X.env)).any (·.1))=false; rw [hpl]; rfl) hni (Eo I hg W.bound ⟨rfl,?_⟩ hdb)
 have h1:=ha cpos pins s σ H _ I h
 rw [he] at h1 ⊢
 refine Calls.evalArgs_plain (thn h1 fun us s1 ⟨vs,H1,I1,r,hz,q⟩=>⟨rfl,by rw [<-r.length]; exact hz,I1.bk _ _ hC,hN.keeps I1.bk,TL.keeps I1.bk,fun h' ea hm=>hout pins σ H1 s1 h' ea us I1 hm q⟩)
end
section
variable {X:Cx} {a b:Str} {e:Expr} {te:TE} {j1 j2:Nat} {p1 p2 p3 pos:Pos}
noncomputable def tFs (te:TE):TE:=fun σ H Q=>te σ H fun v H1=>∃i:Int,v = .int i/\i.natAbs.log2 < 1920/\∀x,Q (.str x) H1
theorem Wi {out:Str} {i:Int} (h1:out.length<=1000) (h2:i.natAbs.log2 < 1920):(out++Str.ofString (toString i)).length<=3000:=by
 rw [strLen_append,PySem.ofString_length]
 have:=int_text_length_le (k:=1920) (by decide) h2
 omega
theorem O7 {n:Nat} (h:n<=5000):n<=sizeLine:=Zo_ h (by decide)
theorem Hs (a:Str) (h:a.length<=1000):(Str.empty++a).length<=1000:=by
 rw [strLen_append]
 show 0 + a.length<=1000
 omega
theorem Aei (he:PE X e te) (h1:a.length<=1000:=by decide):PE X (.JoinedStr [.Constant (.str a) j1 p1,.FormattedValue e (-1) none p2] pos) (tFs te):=by
 intro pins s σ H Q I h
 have hz:=Hs a h1
 refine JoinedStr_many (joinParts_cons (Calls.Constant_str ⟨O7 (by omega),?_⟩))
 refine joinParts_cons (FormattedValue_plain (thn (he pins _ σ H _ (I.tok _) h) fun u s1 ⟨v,H1,I1,r,i,ev,hd,q⟩=>?_))
 subst ev
 obtain ⟨tk,rfl⟩:=r
 have hz2:=Wi hz hd
 exact formatField_int_small hd ⟨O7 (by omega),joinParts_nil ⟨.str _,H1,I1.tok _,⟨_,rfl⟩,q _⟩ (O7 (by omega))⟩
theorem Pa (he:PE X e te) (h1:a.length<=1000:=by decide) (h2:b.length<=1000:=by decide):PE X (.JoinedStr [.Constant (.str a) j1 p1,.FormattedValue e (-1) none p2,.Constant (.str b) j2 p3] pos) (tFs te):=by
 intro pins s σ H Q I h
 have hz:=Hs a h1
 refine JoinedStr_many (joinParts_cons (Calls.Constant_str ⟨O7 (by omega),?_⟩))
 refine joinParts_cons (FormattedValue_plain (thn (he pins _ σ H _ (I.tok _) h) fun u s1 ⟨v,H1,I1,r,i,ev,hd,q⟩=>?_))
 subst ev
 obtain ⟨tk,rfl⟩:=r
 have hz2:=Wi hz hd
 refine formatField_int_small hd ⟨O7 (by omega),?_⟩
 have hz3:(Str.empty++a++Str.ofString (toString i)++b).length<=4000:=by
  rw [strLen_append]
  omega
 exact joinParts_cons (Calls.Constant_str ⟨O7 (by omega),joinParts_nil ⟨.str _,H1,I1.tok _,⟨_,rfl⟩,q _⟩ (O7 (by omega))⟩)
end
theorem Fun.ok1 {P:Program} {w:World} {K:Θf} {mg:Str->Option Value} {base:Heap} {x qual:Str} {st:Stmt} {f:Addr} {fd:FuncData} {N ps:List Str} {k:Nat} {sp:Sp} (F:Fun K x qual st f fd) (S:FnScope N ps (A7 st)) (len:∀vs H Q E,sp vs H Q E->vs.length=ps.length)
  (hbody:∀(cdv:Value) (A:Around) (outer:List Env) (s:Shared) (H:Hp) (vs:List V) (Q:VK) (E:XK),Room k (A.deeper (envOfC qual (A7 st) s.heap.objs.size f cdv))->sp vs H Q E->
   ∃t,PSs (Fl (CX1 P w) P w K mg base N qual (A7 st) f cdv A outer s H E) (N0 st) t/\t { nx:=fun _ H'=>Q .non H',rt:=Q } (Cf N vs) H):FnOk P w K mg base (CX1 P w) (k + 1) f fd ps sp:=by
 obtain ⟨oc,od,kV,doc,pm,an,cdv,ct,osl,rfl,lk,hcd⟩:=F.ex
 exact Acu lk hcd S len fun A outer s H vs Q E hr hsp=>hbody cdv A outer s H vs Q E hr hsp
noncomputable def Adm (ea C:Addr):HO:=.ext fun h=>∃o vs,h.get? ea=some o/\o.cls = .ref C/\o.data = .fields vs
noncomputable abbrev Cx.within (X:Cx) (ea:Addr):Cx:={ X with A:=X.A.mark (some (.ref ea)),calm:=false,xe:=fun _ _=>False }
section
variable {X:Cx} {pins:List (Addr × Obj)} {σ:St} {H:Hp} {s:Shared} {ea:Addr}
theorem Inv.inS (I:Inv X pins σ H s) (ea:Addr):Inv (X.within ea) pins σ H s:=
 ⟨⟨I.ok.mod,I.ok.kind,I.ok.glob,I.ok.blt,I.ok.above,I.ok.inj,I.ok.has,I.ok.cab,(fun z=>by cases z),I.ok.frames,I.ok.stk,I.ok.exf,I.ok.bs,I.ok.bsz,I.ok.noex,I.ok.exfs,I.ok.funs,I.ok.frf⟩,I.os,I.bare,I.base,I.loc,I.cell,I.free,I.freeC,I.pin,I.hok,I.len⟩
theorem Inv.outS (hd:X.calm=true->X.A.handled=none) (I:Inv (X.within ea) pins σ H s):Inv X pins σ H s:=
 ⟨⟨I.ok.mod,I.ok.kind,I.ok.glob,I.ok.blt,I.ok.above,I.ok.inj,I.ok.has,I.ok.cab,hd,I.ok.frames,I.ok.stk,I.ok.exf,I.ok.bs,I.ok.bsz,I.ok.noex,I.ok.exfs,I.ok.funs,I.ok.frf⟩,I.os,I.bare,I.base,I.loc,I.cell,I.free,I.freeC,I.pin,I.hok,I.len⟩
theorem Fly.landed {H':Hp} {s':Shared} {C:Addr} {B h2:Heap} (I:Inv X pins σ H s) (F:Fly X.prog X.w X.stack H H' s s' ea C B) {a0:Value} (f:Heap.FlyingW B X.stack ea (.ref C) a0 h2) (k2:s'.heap.UpToSlots h2) :
  Inv X pins σ (upd H' ea (Adm ea C)) { s' with heap:=h2 }:=by
 have u:=F.over I f.1 k2
 have hn:=F.fresh
 obtain ⟨oe,vs,hoe,hoc,hod,_⟩:=f.first
 have nfr:ea∉frs X.stack:=fun hm=>by
  obtain ⟨_,o,ho,hd⟩:=f.2.2.1.mem hm
  rw [hoe] at ho
  cases ho
  exact hd vs hod
 have nes:∀b o,s.heap.get? b=some o->H b=none->b≠ea:=fun b o e n z=>by
  subst z
  have:=F.inB b o e n nfr
  rw [f.2.1] at this
  cases this
 refine I.call' (ch:=[]) (s':={ s' with heap:=h2 }) F.os ⟨u.keep,u.slot,fun b o e n hx=>?_,u.there,fun b xs e=>?_,fun b o xs e=>?_,fun b ps e=>?_⟩ (fun b ob e=>?_) F.bare fun b hb=>absurd hb (by simp)
 ·rw [C6 (nes b o e n)]
  exact u.free b o e n hx
 ·have:=u.tups b xs e
  rw [C6 (C7 this hn)]
  exact this
 ·have:=u.frzs b o xs e
  rw [C6 (C7 this hn)]
  exact this
 ·obtain ⟨more,h3⟩:=u.tbls b ps e
  exact ⟨more,by rw [C6 (C7 h3 hn)]; exact h3⟩
 ·by_cases z:b=ea
  ·subst z
   rw [A3] at e
   cases e
   exact ⟨⟨oe,vs,hoe,hoc,hod⟩,⟨oe,hoe⟩,fun h1 h2' ⟨o,vs',h3,h4,h5⟩ k=>⟨o,vs',k o h3,h4,h5⟩⟩
  ·rw [C6 z] at e
   exact ((F.hok.kept f.1) b ob e).stay (fun _ _ _ q=>q) (fun c q=>by rw [C6 (C7 q hn)]; exact q) fun c xs q=>by rw [C6 (C7 q hn)]; exact q
end
noncomputable def Ac7 (X:Cx) (st:List Stmt) (t:(St->Hp->Prop)->(St->XK)->St->Hp->Prop):Prop:=
 ∀(pins:List (Addr × Obj)) (s:Shared) (σ:St) (H:Hp) (N:St->Hp->Prop) (E:St->XK),Inv X pins σ H s->t N E σ H->
  wpAny (model X.prog X.w) X.A (execs st X.env) (fun f s1=>f = .next/\∃σ' H',Inv X pins σ' H' s1/\N σ' H') (fun e s'=>∃σ' H1 s1,Inv X pins σ' H1 s1/\CX1 X.prog X.w X.stack H1 s1 (E σ') e s') s
section
variable {X:Cx} {k:Nat} {f:Addr} {fd:FuncData} {ps:List Str} {sp:Sp} {x y:Str} {p yp ap pos:Pos} {e:Expr} {es:List Expr} {t:TA} {i:Nat}
end
section
variable {X:Cx} {body:List Stmt} {tb:(St->Hp->Prop)->(St->XK)->St->Hp->Prop} {cx n z:Str} {c:Value} {cp np zp zp2 hp pos:Pos} {j l:Nat}
end
section
open PySem.W PySem.Calls PySem.Builtin PySem.Builtin.ObjectAttr PySem.Builtin.Getset_descriptor
variable {K:Θf} {prog:Program} {w:World} {A:Around} {E:Value->Shared->Prop} {s:Shared} {ea C:Addr}
end
noncomputable def vwO (r d:Addr):HO:=.ext fun h=>h.IsValuesView r d
section
variable {X:Cx}
noncomputable def Agq (td:TE):TE:=fun σ H Q=>td σ H fun x H1=>∃a kvs,x = .ref a/\H1 a=some (.dK kvs)/\∀r,H1 r=none->Q (.ref r) (upd H1 r (vwO r a))
theorem Ab2 {oe:Expr} {apos cpos:Pos} {td:TE} (ho:PE X oe td) (hbase:attributeBase oe "values" X.env (eval oe X.env)=eval oe X.env:=by rfl) (hline:(apos.endLine == cpos.line)=true:=by rfl) :
  PE X (.Call (.Attribute oe "values" apos) [] [] cpos) (Agq td):=by
 intro pins s σ H Q I h
 refine wpAny_Call_method0_late hbase hline (thn (ho pins s σ H _ I h) fun v s1 ⟨x,H1,I1,r1,a,kvs,ex,ea,q⟩=>?_)
 subst ex
 obtain rfl:v=Value.ref a:=r1
 obtain ⟨t1,t2,hd⟩:=Wu I1 (.inl ⟨kvs,.inl ea⟩)
 obtain ⟨_,hs,vs,_,dd⟩:=Vy I1.hok ea
 refine ⟨"dict","dict.values",PySem.F.plainAttrs_dict,PySem.F.slot_dict_values,PySem.F.type_dict_values,t1,t2,Calls.callWith_builtin rfl (PySem.evalArgs_none ?_)⟩
 refine call_meetsIn PySem.F.slot_dict_values t1 PySem.F.entry_dict_values (PySem.F.args_dict_values_1 _) (meets_dict_values (K4 X.prog X.w) a hs) ⟨⟨vs,dd⟩,?_⟩
 refine ⟨.ref s1.heap.objs.size,_,I1.laid (a:=s1.heap.objs.size) (o:=vwO s1.heap.objs.size a) (t':=s1.toks) (fun b u e=>Zc_ _ e) (Zd_ _) ?_,rfl,q _ I1.fresh⟩
 exact ⟨⟨_,Zm_ _ rfl,rfl,rfl⟩,⟨_,Zm_ _ rfl⟩,fun h1 h2 ⟨o,e1,e2⟩ k=>⟨o,k o e1,e2⟩⟩
theorem Sl:∀{kvs:List (Key × V)} {vs:List (Key × Value)},KV kvs vs->Vals (kvs.map (·.2)) (vs.map (·.2))
 | [],[],_=>.nil
 | _ :: _,_ :: _,.cons a b=>.cons a.2 (Sl b)
theorem Nu (hc:X.calm=true):Q6 X (.type "list") (fun xs H Q=>∃r d kvs,xs=[.ref r]/\H r=some (vwO r d)/\H d=some (.dK kvs)/\∀l,H l=none->Q (.ref l) (upd H l (.lst (kvs.map (·.2))))):=by
 intro pins s σ H xs us Q I r h
 obtain ⟨v,d,kvs,rfl,hv,ed,q⟩:=h
 obtain ⟨u,rfl,rx⟩:=Z9 r
 cases rx
 obtain ⟨hview,_⟩:=I.hok v _ hv
 obtain ⟨hz,_,vs,rel,o,es,ep,dd⟩:=Vy I.hok ed
 have hlen:vs.length<=sizeLine:=by rw [<-rel.length]; exact hz
 refine PySem.W.kdl_call (PySem.W.kdl_values (knd:=K4 X.prog X.w) (kvs:=vs) (ep:=ep)) (I.ok.hd hc) ⟨hview,o,es,dd⟩ hlen fun h' tk acc c' kp e it=>?_
 have ev:acc.toList=vs.map (·.2):=PySem.W.kdl_vals_eq acc.toList (by rw [Zz_]; exact it.1) fun j w e=>it.2 j w (by rw [<-Array.getElem?_toList]; exact e)
 refine ⟨.ref s.heap.objs.size,_,I.laid (t':=tk) kp (Zd_ _) (show ObjOk X.prog X.w _ h' _ (.lst (kvs.map (·.2))) from ⟨by rw [Θl]; exact hz,vs.map (·.2),c',Sl rel,?_⟩),rfl,q _ I.fresh⟩
 rw [<-ev,Array.toArray_toList]
 exact e
end
end L2
namespace L2
open PySem PySem.Spec PyProof.Rows PySem.W
noncomputable def Af4 (a:Nat):Nat:=((List.range 7).filter (Jn a)).length
noncomputable def F1 (a m:Nat):List Nat:=(List.range (a + 1)).filter fun x=>decide (x&&&a=x) && decide (Af4 x=m)
noncomputable def T9 (a m:Nat):List Nat:=(List.range m).flatMap (F1 a)
noncomputable def Nw (a:Nat):List Nat:=T9 a 8
noncomputable def Aaj (a x:Nat):List Nat:=((D4 a).filter fun c=>decide (x < 2 ^ c)).map fun c=>x|||2 ^ c
noncomputable def X2 (a:Nat) (l:List Nat):List Nat:=l.flatMap (Aaj a)
theorem Ie:∀a,a < 128->∀i,i < 8->(X2 a (F1 a i)).isPerm (F1 a (i + 1))=true:=by decide +kernel
theorem Ex:∀a,a < 128->∀i,i < 9->(F1 a i).length<=35:=by decide +kernel
theorem Mv:∀a,a < 128->F1 a 0=[0]:=by decide +kernel
theorem Mu:∀a,a < 128->F1 a 8=[]:=by decide +kernel
theorem Rg:∀a,a < 128->∀i,i < 9->F1 a i=[]->T9 a i=Nw a:=by decide +kernel
theorem Act:∀a,a < 128->(D4 a).length<=7/\(D4 a).all (fun c=>decide (c < 7))=true:=by decide +kernel
theorem Aes (a m:Nat):(F1 a m).Pairwise (·<=·):=by
 have h:∀n,(List.range n).Pairwise (·<=·):=fun n=>List.Pairwise.imp Nat.le_of_lt List.pairwise_lt_range
 exact (h _).filter _
theorem Aer {a i:Nat} (ha:a < 128) (hi:i < 8) {ns:List Int} (p:ns.Perm ((X2 a (F1 a i)).map fun (k:Nat)=>(k:Int))) (s:ns.Pairwise (·<=·)):ns=(F1 a (i + 1)).map fun (k:Nat)=>(k:Int):=by
 have p2:=p.trans ((List.isPerm_iff.mp (Ie a ha i hi)).map fun (k:Nat)=>(k:Int))
 refine List.Perm.eq_of_pairwise (le:=fun (x y:Int)=>x<=y) (fun x y _ _ h1 h2=>Int.le_antisymm h1 h2) s ?_ p2
 rw [List.pairwise_map]
 exact (Aes a (i + 1)).imp fun h=>Int.ofNat_le.mpr h
theorem U0 (a m:Nat):T9 a (m + 1)=T9 a m++F1 a m:=by
 unfold T9
 rw [List.range_succ,List.flatMap_append]
 simp
theorem Wb (a m:Nat) (ha:a < 128) (hm:m < 9):(T9 a m).length<=35 * m:=by
 induction m with
 | zero=>exact Zp_ _
 | succ m ih=>
  rw [U0,Zv_]
  have h1:=Ex a ha m (by omega)
  have h2:=ih (by omega)
  omega
theorem Nk (a x:Nat) (ha:a < 128):(Aaj a x).length<=7:=by
 unfold Aaj
 rw [Θl]
 exact Zo_ (List.length_filter_le _ _) (Act a ha).1
theorem Id (a:Nat) (ha:a < 128):∀l:List Nat,(X2 a l).length<=7 * l.length
 | []=>Zp_ _
 | x :: l=>by
  have h1:=Id a ha l
  have h2:=Nk a x ha
  show (Aaj a x++X2 a l).length<=_
  rw [Zv_,ZA]
  omega
theorem Om {a i x:Nat} {l:List Nat} (h:l[i]? = some x):X2 a (l.take (i + 1))=X2 a (l.take i)++Aaj a x:=by
 unfold X2
 rw [List.take_succ,h,List.flatMap_append]
 simp
theorem Same.own3 {H H':Hp} {p:Addr} {o:HO} (e:Same H H') (h:H p=Option.none):Same H (upd H' p o):=fun c u z=>by
 rw [C6 (C7 z h)]; exact e _ _ z
noncomputable def Kw:Sp:=fun vs H Q _=>∃(p:Addr) (a i:Nat),vs=[.ref p,vN a]/\a < 128/\i < 8/\H p=some (.lst ((F1 a i).map vN))/\∀(l:Addr) (H':Hp),Same H H'->H l=none->H' l=some (.lst ((F1 a (i + 1)).map vN))->Q (.ref l) H'
noncomputable def Sc:Sp:=fun vs H Q _=>∃a:Nat,vs=[vN a]/\a < 128/\∀(l:Addr) (H':Hp),Same H H'->H l=none->H' l=some (.lst ((Nw a).map vN))->Q (.ref l) H'
end L2
namespace L2
open PySem PySem.Spec PyProof.Rows
section
variable {X:Cx} {K:Θf}
theorem So (bs:List Bool):((List.range bs.length).any fun i=>bs.getD i true)=bs.any id:=by
 rw [Bool.eq_iff_iff,List.any_eq_true,List.any_eq_true]
 constructor
 ·rintro ⟨i,hi,h⟩
  have hi':=List.mem_range.mp hi
  rw [Zu_,Θh hi'] at h
  exact ⟨_,List.getElem_mem hi',h⟩
 ·rintro ⟨b,hb,h⟩
  obtain ⟨i,hi,rfl⟩:=List.getElem_of_mem hb
  refine ⟨i,List.mem_range.mpr hi,?_⟩
  rw [Zu_,Θh hi]
  exact h
theorem Co (h:X.K=K) (hc:X.calm=true):Q6 X (.builtin "any") (fun xs H Q=>∃(p:Addr) (bs:List Bool),xs=[.ref p]/\SqL K H p (bs.map V.bl)/\Q (.bl (bs.any id)) H):=by
 subst h
 intro pins s σ H xs us Q I r h
 obtain ⟨p,bs,rfl,hq,q⟩:=h
 obtain ⟨u,rfl,rx⟩:=Z9 r
 cases rx
 obtain ⟨its,rv,pl,hz⟩:=I.list hq
 have len:its.length=bs.length:=by rw [<-rv.length,Θl]
 refine call_any_walk (wpAny_pyIter_list pl.isList ⟨s.heap.objs.size,[s.heap.objs.size,p],[s.heap.objs.size],its.toArray.size,_,_,fun i=>bs.getD i true,rfl,Walks.list (A:=X.A.in1) (I.ok.hd hc) _ p (Zs_ pl.lt) its.toArray,⟨⟨_,Zm_ _ rfl,rfl,rfl⟩,pl.isList.push _⟩,fun i v s' Q' E' hP hQ=>?_,fun h' tk hk=>?_⟩)
 ·have hP':its[i]? = some v:=by simpa using hP
  have hi:i < bs.length:=by rw [<-len]; exact (Ze_.mp hP').1
  obtain ⟨c,e1,r1⟩:=rv.get (i:=i) (x:=V.bl bs[i]) (by rw [Θg,Θh hi]; rfl)
  rw [hP'] at e1
  obtain rfl:=Θo e1
  obtain rfl:v=Value.bool bs[i]:=r1
  refine wpAny_truthy_bool ?_
  have hQ':Q' (bs.getD i true) s':=hQ
  rwa [Zu_,Θh hi] at hQ'
 ·refine ⟨.bl (bs.any id),H,I.kept fun b o e=>hk b o (fun hm=>?_) (Zc_ _ e),?_,q⟩
  ·rw [Θs hm] at e
   exact Nat.lt_irrefl _ (Zn_ e)
  ·show _=Value.bool _
   rw [Zx_,len,So]
end
noncomputable def Ay (m:Nat) (rs:List RD) (x:Nat):Prop:=∀d,I0 m rs d->Fc x d->False
theorem Blocks.whole {m x fx:Nat} {rs:List RD} {bs:List Nat} (B:Blocks m rs x fx bs):fx=2 ^ m - 1↔Ay m rs x:=by
 have hs:=B.good.sum
 constructor
 ·intro e d hd ha
  obtain ⟨b,hb,_⟩:=B.holds d hd ha
  have h1:=Jq hb
  have h2:=B.good.pos b hb
  omega
 ·intro h
  cases bs with
  | nil=>exact hs
  | cons b bs=>exact (h b (B.kept b (Θc ..)) (B.apart b (Θc ..))).elim
noncomputable def wiB (x:Nat) (f:List Nat):Bool:=f.any fun y=>decide (y&&&x=y)
open Classical in
noncomputable def Aj (m:Nat) (rs:List RD) (f:List Nat) (x:Nat):List Nat:=if wiB x f=false/\Ay m rs x then f++[x] else f
noncomputable def N7 (m:Nat) (rs:List RD) (l:List Nat):List Nat:=l.foldl (Aj m rs) []
theorem U2 {m x:Nat} {rs:List RD} {f:List Nat} (h1:wiB x f=false) (h2:Ay m rs x):Aj m rs f x=f++[x]:=by unfold Aj; rw [if_pos ⟨h1,h2⟩]
theorem Y4 {m x:Nat} {rs:List RD} {f:List Nat} (h:¬(wiB x f=false/\Ay m rs x)):Aj m rs f x=f:=by unfold Aj; rw [if_neg h]
theorem Og {m x i:Nat} {rs:List RD} {l:List Nat} (h:l[i]? = some x):N7 m rs (l.take (i + 1))=Aj m rs (N7 m rs (l.take i)) x:=by
 unfold N7
 rw [List.take_succ,h,List.foldl_append]; rfl
theorem Wy (m:Nat) (rs:List RD) (f:List Nat) (x:Nat):(Aj m rs f x).length<=f.length + 1:=by
 by_cases h:wiB x f=false/\Ay m rs x
 ·rw [U2 h.1 h.2,Zv_]; exact Zd_ _
 ·rw [Y4 h]; exact Nat.le_succ _
theorem Hz (m:Nat) (rs:List RD):∀(l f:List Nat),(l.foldl (Aj m rs) f).length<=f.length + l.length
 | [],f=>Zd_ _
 | x :: l,f=>by
  have h1:=Hz m rs l (Aj m rs f x)
  have h2:=Wy m rs f x
  rw [List.foldl_cons,ZA]
  omega
theorem Cr (m:Nat) (rs:List RD) (l:List Nat):(N7 m rs l).length<=l.length:=by
 have:=Hz m rs l []
 unfold N7
 simpa using this
theorem Acq (x:Nat) (f:List Nat):(f.map fun y=>decide (y&&&x=y)).any id=wiB x f:=by
 unfold wiB
 rw [List.any_map]; rfl
noncomputable def Ahc (m x:Nat):Nat:=((List.range m).map fun k=>x / 2 ^ k&&&1).sum
noncomputable def Agg (m s:Nat):List Nat:=(List.range s).flatMap fun n=>(List.range (2 ^ m)).filter fun x=>decide (Ahc m x=n)
noncomputable def F6 (m:Nat):List Nat:=Agg m (m + 1)
theorem Zp:∀m,m < 8->F6 m=Nw (2 ^ m - 1):=by decide +kernel
theorem X9:∀m,m < 8->(F6 m).length=2 ^ m/\(F6 m).all (fun x=>decide (x < 2 ^ m))=true/\(F6 m).contains (2 ^ m - 1)=true:=by decide +kernel
noncomputable def Ar (K:Θf):Sp:=fun vs H Q _=>∃(x:Nat) (p:Addr) (f:List Nat),vs=[vN x,.ref p]/\SqL K H p (f.map vN)/\f.length<=200/\∀H',Same H H'->Q (.bl (wiB x f)) H'
noncomputable def Pu (K:Θf):Sp:=fun vs H Q _=>∃(m:Nat) (rl:Addr) (rs:List Rl),vs=[vN m,.ref rl]/\m<=7/\SqL K H rl (rs.map fun r=>V.ref r.r)/\RulesAt H m rs/\rs.length<=200/\
 ∀(p:Addr) (H':Hp),Same H H'->H p=none->H' p=some (.lst ((N7 m (rs.map Rl.d) (F6 m)).map vN))->Q (.ref p) H'
section
variable {X:Cx} {K:Θf}
theorem Ju (h:X.K=K):OpR X (compareOp .In) (rIn K false):=h ▸ Uh
end
noncomputable def Uj:List Nat->Bool
 | []=>true
 | a :: r=>r.all (fun b=>!decide (b&&&a=b)) && Uj r
theorem Zq:∀m,m < 8->Uj (F6 m)=true:=by decide +kernel
theorem Zo:∀m,m < 8->∀x,x < 2 ^ m->(F6 m).contains x=true:=by decide +kernel
theorem Uk {a:Nat} {r:List Nat} (h:Uj (a :: r)=true):(∀b∈r,b&&&a≠b)/\Uj r=true:=by
 rw [Uj,Bool.and_eq_true,List.all_eq_true] at h
 refine ⟨fun b hb=>?_,h.2⟩
 have:=h.1 b hb
 rw [Bool.not_eq_true',decide_eq_false_iff_not] at this
 exact this
theorem Aam {z a x:Nat} (h1:z&&&a=z) (h2:a&&&x=a):z&&&x=z:=by
 rw [<-h1,Nat.and_assoc,h2]
theorem wiB_iff {x:Nat} {f:List Nat}:wiB x f=true↔∃y∈f,y&&&x=y:=by
 unfold wiB
 rw [List.any_eq_true]
 exact ⟨fun ⟨y,h1,h2⟩=>⟨y,h1,Zj_ h2⟩,fun ⟨y,h1,h2⟩=>⟨y,h1,Zr_ h2⟩⟩
theorem Afd {x:Nat} {f:List Nat} (h:wiB x f=false):∀y∈f,y&&&x≠y:=fun y hy e=>by
 rw [wiB_iff.mpr ⟨y,hy,e⟩] at h
 cases h
theorem Ft {m a x:Nat} {rs:List RD} {f:List Nat} (h:x∈f):x∈Aj m rs f a:=by
 by_cases z:wiB a f=false/\Ay m rs a
 ·rw [U2 z.1 z.2]; exact List.mem_append.mpr (.inl h)
 ·rw [Y4 z]; exact h
theorem Ct {m:Nat} {rs:List RD} {x:Nat}:∀(l f:List Nat),x∈f->x∈l.foldl (Aj m rs) f
 | [],f,h=>h
 | a :: l,f,h=>Ct l _ (Ft h)
theorem Cs {m:Nat} {rs:List RD} {x:Nat} (hA:Ay m rs x):∀(l f:List Nat),x∈l->wiB x (l.foldl (Aj m rs) f)=true
 | a :: l,f,h=>by
  rcases Zg_.mp h with rfl | h
  ·rw [List.foldl_cons]
   by_cases z:wiB x f=false
   ·rw [U2 z hA]
    exact wiB_iff.mpr ⟨x,Ct l _ (List.mem_append.mpr (.inr (List.mem_singleton.mpr rfl))),Nat.and_self x⟩
   ·rw [Y4 fun h=>z h.1]
    have z':wiB x f=true:=by cases e:wiB x f with | true=>rfl | false=>exact absurd e z
    obtain ⟨y,h1,h2⟩:=wiB_iff.mp z'
    exact wiB_iff.mpr ⟨y,Ct l _ h1,h2⟩
  ·exact Cs hA l _ h
theorem Ak {m:Nat} {rs:List RD} {x:Nat}:∀(l f:List Nat),Uj l=true->x∈l.foldl (Aj m rs) f->x∈f\/(x∈l/\Ay m rs x/\(∀y∈f,y&&&x≠y)/\∀y∈l,Ay m rs y->y&&&x=y->y=x)
 | [],f,_,h=>.inl h
 | a :: l,f,ho,h=>by
  obtain ⟨o1,o2⟩:=Uk ho
  rw [List.foldl_cons] at h
  rcases Ak l _ o2 h with h | ⟨h1,h2,h3,h4⟩
  ·by_cases z:wiB a f=false/\Ay m rs a
   ·rw [U2 z.1 z.2] at h
    rcases Θa h with h | h
    ·exact .inl h
    ·rw [Θs h]
     refine .inr ⟨Θc ..,z.2,Afd z.1,fun y hy _ hw=>?_⟩
     rcases Zg_.mp hy with rfl | hy
     ·rfl
     ·exact absurd hw (o1 y hy)
   ·rw [Y4 z] at h; exact .inl h
  ·refine .inr ⟨Θd _ h1,h2,fun y hy=>h3 y (Ft hy),fun y hy hA hw=>?_⟩
   rcases Zg_.mp hy with rfl | hy
   ·exfalso
    by_cases z:wiB y f=false
    ·refine h3 y ?_ hw
     rw [U2 z hA]
     exact List.mem_append.mpr (.inr (List.mem_singleton.mpr rfl))
    ·have z':wiB y f=true:=by cases e:wiB y f with | true=>rfl | false=>exact absurd e z
     obtain ⟨v,hv,hvy⟩:=wiB_iff.mp z'
     exact h3 v (Ft hv) (Aam hvy hw)
   ·exact h4 y hy hA hw
theorem Va {m i c:Nat} {rs ls:List RD} {l r:RD} {cs:List Nat} (hi:ls[i]? = some l) (h1:l.1=true) (hk:∀d,I0 m rs d↔I0 m ls d) (D:Lb m rs l r cs) :
  ∃l',(Q8 m i ls c)[i]? = some l'/\l'.1=true/\Lb m rs l' r (cs++[c])/\∀d,I0 m rs d↔I0 m (Q8 m i ls c) d:=by
 obtain ⟨d1,d2,d3,d4,d5⟩:=D
 have ea:=Eu hi
 have hil:i < ls.length:=(Ze_.mp hi).1
 by_cases f:Q1 m ls true (L0 l.2.1 c) l.2.2
 ·rw [Iz (by rw [ea]; exact f),ea]
  have hg:∀d,usB ((true,L0 l.2.1 c,l.2.2):RD) d=false->usB l d=false:=fun d hd=>by
   have el:l=(true,l.2.1,l.2.2):=by
    obtain ⟨a,b,e⟩:=l
    show (a,b,e)=(true,b,e)
    rw [show a=true from h1]
   rw [el]
   exact Aco hd fun k hk=>((P6 l.2.1 c k).mp hk).1
  refine ⟨(true,L0 l.2.1 c,l.2.2),List.getElem?_set_self hil,rfl,⟨h1.symm.trans d1,d2,fun k hk=>d3 k ((P6 _ _ _).mp hk).1,(fun z=>by cases z),fun _ c' hc' hx=>?_⟩,fun d=>(hk d).trans (Wx hi f hg d)⟩
  have hx':=(P6 l.2.1 c c').mp hx
  rcases Θa hc' with h | h
  ·intro f2
   refine d5 h1 c' h hx'.1 (Wf f2 fun k hk'=>?_)
   have:=(P6 (L0 l.2.1 c) c' k).mp hk'
   exact (P6 l.2.1 c' k).mpr ⟨((P6 l.2.1 c k).mp this.1).1,this.2⟩
  ·exact absurd (Θs h).symm hx'.2
 ·rw [Nh (by rw [ea]; exact f)]
  refine ⟨l,hi,h1,⟨d1,d2,d3,d4,fun z c' hc' hx=>?_⟩,hk⟩
  rcases Θa hc' with h | h
  ·exact d5 z c' h hx
  ·rw [Θs h]
   intro f2
   exact f ((We hk).mp f2)
theorem Qh {m i:Nat} {rs:List RD} {r:RD}:∀(cs pre:List Nat) (ls:List RD) (l:RD),ls[i]? = some l->l.1=true->(∀d,I0 m rs d↔I0 m ls d)->Lb m rs l r pre->
  ∃l',(M3 m i ls cs)[i]? = some l'/\Lb m rs l' r (pre++cs)/\∀d,I0 m rs d↔I0 m (M3 m i ls cs) d
 | [],pre,ls,l,hi,_,hk,D=>⟨l,hi,by rw [List.append_nil]; exact D,hk⟩
 | c :: cs,pre,ls,l,hi,h1,hk,D=>by
  obtain ⟨l',a1,a2,a3,a4⟩:=Va (c:=c) hi h1 hk D
  obtain ⟨l2,b1,b2,b3⟩:=Qh cs (pre++[c]) (Q8 m i ls c) l' a1 a2 a4 a3
  have e:M3 m i ls (c :: cs)=M3 m i (Q8 m i ls c) cs:=rfl
  rw [e]
  exact ⟨l2,b1,by rw [Zy_] at b2; exact b2,b3⟩
theorem Sk {m:Nat} {rs:List RD}:∀n,n<=rs.length->(∀d,I0 m rs d↔I0 m (L7 m rs n) d)/\∀j l r,j < n->(L7 m rs n)[j]? = some l->rs[j]? = some r->Lb m rs l r (D4 r.2.1)
 | 0,_=>⟨fun d=>Iff.rfl,fun j l r h=>absurd h (Nat.not_lt_zero _)⟩
 | n + 1,hn=>by
  obtain ⟨k0,h0⟩:=Sk (m:=m) (rs:=rs) n (by omega)
  have er:rs[n]? = some rs[n]:=Θh (by omega)
  have ea:=Eu er
  have el:(L7 m rs n)[n]? = some rs[n]:=by rw [S7 m rs n n (Zd_ _)]; exact er
  rw [P1,ea]
  by_cases z:rs[n].1=true
  ·rw [if_pos z]
   obtain ⟨l',b1,b2,b3⟩:=Qh (i:=n) (r:=rs[n]) (D4 rs[n].2.1) [] (L7 m rs n) rs[n] el z k0 ⟨rfl,rfl,fun k h=>h,fun _=>rfl,fun _ c h=>absurd h Zi_⟩
   refine ⟨b3,fun j l r hj hl hr=>?_⟩
   by_cases e:j=n
   ·subst e
    rw [b1] at hl
    rw [er] at hr
    obtain rfl:=Θo hl
    obtain rfl:=Θo hr
    exact b2
   ·rw [W9 (fun w=>e w.symm)] at hl
    exact h0 j l r (by omega) hl hr
  ·rw [if_neg z]
   refine ⟨k0,fun j l r hj hl hr=>?_⟩
   by_cases e:j=n
   ·subst e
    rw [el] at hl
    rw [er] at hr
    obtain rfl:=Θo hl
    obtain rfl:=Θo hr
    exact ⟨rfl,rfl,fun k h=>h,fun _=>rfl,fun w=>absurd w z⟩
   ·exact h0 j l r (by omega) hl hr
theorem Aak {m:Nat} {rs:List RD} (m7:m<=7) (hb:∀r∈rs,r.2.1 < 2 ^ m):LeastP m rs (L7 m rs rs.length):=by
 obtain ⟨k0,h0⟩:=Sk (m:=m) (rs:=rs) rs.length (Zd_ _)
 refine ⟨k0,X0 m rs _,fun i l r hl hr=>?_⟩
 obtain ⟨a1,a2,a3,a4,a5⟩:=h0 i l r (Ze_.mp hr).1 hl hr
 have p7:=W4 m7
 refine ⟨a1,a2,a3,a4,fun z c' hk=>a5 z c' ?_ hk⟩
 exact (O3 (a:=r.2.1) (by have:=hb r (Θe hr); omega) c').mpr (a3 c' hk)
theorem Cz {m:Nat} {ls:List RD}:∀(rest k:List RD),(∀d,I0 m ls d↔I0 m (k++rest) d)->(k++rest).Sublist ls->(∀j r,j < k.length->(k++rest)[j]? = some r->¬Q1 m ((k++rest).eraseIdx j) r.1 r.2.1 r.2.2)->NeedP m ls (Q4 m k rest)
 | [],k,hk,hs,hn=>by
  rw [List.append_nil] at hk hs hn
  exact ⟨hk,hs,fun i r h=>hn i r (Ze_.mp h).1 h⟩
 | r :: rest,k,hk,hs,hn=>by
  have ei:(k++r :: rest)[k.length]? = some r:=by rw [ZD (Zd_ _),Nat.sub_self]; rfl
  have ee:(k++r :: rest).eraseIdx k.length=k++rest:=by
   rw [List.eraseIdx_append_of_length_le (Zd_ _),Nat.sub_self]; rfl
  by_cases f:Q1 m (k++rest) r.1 r.2.1 r.2.2
  ·rw [Ih f]
   have f':Q1 m ((k++r :: rest).eraseIdx k.length) r.1 r.2.1 r.2.2:=by rw [ee]; exact f
   refine Cz rest k (fun d=>?_) ?_ fun j q hj hq=>?_
   ·have:=Od ei f' d
    rw [ee] at this
    exact (hk d).trans this
   ·refine List.Sublist.trans ?_ hs
    rw [<-ee]; exact List.eraseIdx_sublist _ _
   ·intro f2
    have hq2:(k++r :: rest)[j]? = some q:=by
     rw [List.getElem?_append_left hj] at hq ⊢
     exact hq
    refine hn j q hj hq2 (Tc (fun z hz=>?_) f2)
    rw [<-ee] at hz
    exact Adk hj hz
  ·rw [Mf f]
   have e1:k++[r]++rest=k++r :: rest:=by rw [Zy_]; rfl
   refine Cz rest (k++[r]) (by rw [e1]; exact hk) (by rw [e1]; exact hs) fun j q hj hq=>?_
   rw [e1] at hq ⊢
   by_cases e:j=k.length
   ·subst e
    rw [ei] at hq
    obtain rfl:=Θo hq
    rw [ee]; exact f
   ·refine hn j q ?_ hq
    rw [Zv_] at hj
    have:j < k.length + 1:=hj
    omega
theorem Ql {m:Nat} {rs:List RD} (m7:m<=7) (hb:∀r∈rs,r.2.1 < 2 ^ m):∃ls,LeastP m (I8 D4 rs) ls/\NeedP m ls (L1 m rs):=by
 have hs:∀r∈I8 D4 rs,r.2.1 < 2 ^ m:=fun r hr=>by
  unfold I8 at hr
  rcases Θa hr with hr | hr
  ·obtain ⟨r',h1,h2⟩:=List.mem_flatMap.mp hr
   unfold Z0 at h2
   obtain ⟨c,_,rfl⟩:=Θn h2
   exact hb r' (List.mem_filter.mp h1).1
  ·exact hb r (List.mem_filter.mp hr).1
 refine ⟨_,Aak m7 hs,?_⟩
 exact Cz _ [] (fun d=>Iff.rfl) (List.Sublist.refl _) fun j r h=>absurd h (Nat.not_lt_zero _)
theorem Ma {m:Nat} {rs:List RD} (m7:m<=7) {x:Nat}:x∈N7 m rs (F6 m)↔x < 2 ^ m/\Ay m rs x/\∀y,y < 2 ^ m->Ay m rs y->y&&&x=y->y=x:=by
 have ho:=Zq m (by omega)
 obtain ⟨_,hlt,_⟩:=X9 m (by omega)
 have lt:∀x∈F6 m,x < 2 ^ m:=fun x hx=>Zj_ (List.all_eq_true.mp hlt x hx)
 have mem:∀x,x < 2 ^ m->x∈F6 m:=fun x hx=>List.contains_iff_mem.mp (Zo m (by omega) x hx)
 constructor
 ·intro hx
  rcases Ak _ _ ho hx with h | h
  ·exact absurd h Zi_
  ·exact ⟨lt x h.1,h.2.1,fun y hy hA hw=>h.2.2.2 y (mem y hy) hA hw⟩
 ·rintro ⟨h1,h2,h3⟩
  obtain ⟨y,hy,ey⟩:=wiB_iff.mp (Cs h2 (F6 m) [] (mem x h1))
  have hy':y∈N7 m rs (F6 m):=hy
  rcases Ak _ _ ho hy with h | h
  ·exact absurd h Zi_
  ·rw [h3 y (lt y h.1) h.2.1 ey] at hy'
   exact hy'
noncomputable def L3 (c:List RD):List Nat:=c.foldl (fun l r=>if r.2.1∈l then l else l++[r.2.1]) []
noncomputable def ptN (c:List RD) (l:Nat):Nat:=c.foldl (fun a r=>if r.2.1=l then a|||r.2.2 else a) l
noncomputable def byF (c:List RD):List Nat:=(L3 c).map (ptN c)
theorem Am (c:List RD) (r:RD):L3 (c++[r])=if r.2.1∈L3 c then L3 c else L3 c++[r.2.1]:=by
 unfold L3
 rw [List.foldl_append]; rfl
theorem Jz (c:List RD) (r:RD) (l:Nat):ptN (c++[r]) l=if r.2.1=l then ptN c l|||r.2.2 else ptN c l:=by
 unfold ptN
 rw [List.foldl_append]; rfl
theorem Bw {α:Type} {P:List α->Prop} (h0:P []) (h1:∀l a,P l->P (l++[a])) (l:List α):P l:=by
 rw [<-List.reverse_reverse l]
 generalize l.reverse=k
 induction k with
 | nil=>exact h0
 | cons a k ih=>rw [List.reverse_cons]; exact h1 _ _ ih
theorem Ib (c:List RD) (x:Nat):x∈L3 c↔∃r∈c,r.2.1=x:=by
 refine Bw (P:=fun c=>x∈L3 c↔∃r∈c,r.2.1=x) ?_ (fun c r ih=>?_) c
 ·constructor
  ·intro h; exact absurd h Zi_
  ·rintro ⟨r,h,_⟩; exact absurd h Zi_
 ·rw [Am]
  constructor
  ·intro h
   by_cases z:r.2.1∈L3 c
   ·rw [if_pos z] at h
    obtain ⟨q,hq,e⟩:=ih.mp h
    exact ⟨q,Zt_ _ hq,e⟩
   ·rw [if_neg z] at h
    rcases Θa h with h | h
    ·obtain ⟨q,hq,e⟩:=ih.mp h
     exact ⟨q,Zt_ _ hq,e⟩
    ·exact ⟨r,Zh_ _ Θc,(Θs h).symm⟩
  ·rintro ⟨q,hq,e⟩
   rcases Θa hq with hq | hq
   ·have:=ih.mpr ⟨q,hq,e⟩
    by_cases z:r.2.1∈L3 c
    ·rw [if_pos z]; exact this
    ·rw [if_neg z]; exact Zt_ _ this
   ·obtain rfl:=Θs hq
    by_cases z:q.2.1∈L3 c
    ·rw [if_pos z,<-e]; exact z
    ·rw [if_neg z,<-e]; exact Zh_ _ Θc
theorem Ia (c:List RD):(L3 c).length<=c.length:=by
 refine Bw (P:=fun c=>(L3 c).length<=c.length) (Zd_ _) (fun c r ih=>?_) c
 rw [Am,Zv_]
 by_cases z:r.2.1∈L3 c
 ·rw [if_pos z]; exact Zo_ ih (Nat.le_add_right _ _)
 ·rw [if_neg z,Zv_]
  have:[r].length=1:=rfl
  have:[r.2.1].length=1:=rfl
  omega
theorem Aeo {c:List RD} {x:Nat} (h:x∉L3 c):ptN c x=x:=by
 have go:∀c:List RD,(∀r∈c,r.2.1≠x)->ptN c x=x:=fun c=>by
  refine Bw (P:=fun c=>(∀r∈c,r.2.1≠x)->ptN c x=x) (fun _=>rfl) (fun c r ih h=>?_) c
  rw [Jz,if_neg (h r (Zh_ _ Θc))]
  exact ih fun q hq=>h q (Zt_ _ hq)
 exact go c fun r hr e=>h ((Ib c x).mpr ⟨r,hr,e⟩)
structure Ones (c:List RD):Prop where
 one:∀r∈c,∃k,r.2.2=2 ^ k/\r.2.1&&&r.2.2=0
 st:∀r∈c,r.1=true
 nd:c.Nodup
theorem Nv {m:Nat} {rs:List RD} (m7:m<=7) (hb:∀r∈rs,r.2.1 < 2 ^ m) (hb2:∀r∈rs,r.2.2 < 2 ^ m) (hs:∀r∈rs,r.1=true):Ones (L1 m rs):=by
 obtain ⟨ls,LP,NP⟩:=Ql m7 hb
 have st:∀r∈L1 m rs,r.1=true:=fun r hr=>by
  have C:=Ae m7 hb2 LP NP hr
  cases e:r.1 with
  | true=>rfl
  | false=>rw [<-e,hs r (C.1 e)]
 refine ⟨fun r hr=>?_,st,?_⟩
 ·obtain ⟨c,_,e1,e2⟩:=(Ae m7 hb2 LP NP hr).2 (st r hr)
  exact ⟨c,e1,e2⟩
 ·refine List.pairwise_iff_getElem.mpr fun i j hi0 hj hij e0=>?_
  have hi:(L1 m rs)[i]? = some (L1 m rs)[i]:=Θh hi0
  have e:(L1 m rs)[i]? = (L1 m rs)[j]?:=by rw [hi,Θh hj,e0]
  refine NP.each i _ hi fun d hd=>hd.2.2 _ ?_
  rw [hi] at e
  have hm:(L1 m rs)[i]∈(L1 m rs).eraseIdx i:=by
   refine Θe (i:=j - 1) ?_
   rw [List.getElem?_eraseIdx,if_neg (by omega),show j - 1 + 1=j by omega,<-e]
  exact hm
noncomputable def kyF (ps f:List Nat):List Nat:=if (ps.any fun p=>wiB p f)=true then ps else ps++f.take 1
noncomputable def inB (p:Nat) (l:List Nat):Bool:=l.any fun q=>decide (p&&&q=p)
noncomputable def P4:List Nat->List Nat->List Nat
 | k,[]=>k
 | k,p :: r=>if inB p (k++r)=true then P4 k r else P4 (k++[p]) r
theorem Ni {k r:List Nat} {p:Nat} (h:inB p (k++r)=true):P4 k (p :: r)=P4 k r:=by rw [P4,if_pos h]
theorem Sj {k r:List Nat} {p:Nat} (h:¬inB p (k++r)=true):P4 k (p :: r)=P4 (k++[p]) r:=by rw [P4,if_neg h]
theorem Ack {i p:Nat} {ls:List Nat} (h:ls[i]? = some p):(inB p (ls.eraseIdx i)=true->P4 (ls.take i) (ls.drop i)=P4 ((ls.eraseIdx i).take i) ((ls.eraseIdx i).drop i))/\(¬inB p (ls.eraseIdx i)=true->P4 (ls.take i) (ls.drop i)=P4 (ls.take (i + 1)) (ls.drop (i + 1))):=by
 obtain ⟨hi,e⟩:=Ze_.mp h
 have ed:ls.drop i=p :: ls.drop (i + 1):=by rw [List.drop_eq_getElem_cons hi,e]
 have et:ls.take (i + 1)=ls.take i++[p]:=by rw [List.take_succ,h]; rfl
 obtain ⟨e1,e2⟩:=Af hi
 have ee:ls.eraseIdx i=ls.take i++ls.drop (i + 1):=List.eraseIdx_eq_take_drop_succ ls i
 constructor
 ·intro z
  rw [e1,e2,ed,Ni (by rw [<-ee]; exact z)]
 ·intro z
  rw [ed,Sj (by rw [<-ee]; exact z),et]
theorem Zm (m:Nat) (rs:List RD):Ay m rs (2 ^ m - 1):=fun d hd ha=>by
 obtain ⟨k,hk⟩:∃k,D5 d k:=Nat.exists_testBit_of_ne_zero (by have:=hd.1; omega)
 refine ha k hk ?_
 show (2 ^ m - 1).testBit k=true
 rw [Nat.testBit_two_pow_sub_one]
 exact Zr_ (V3 hd.2.1 hk)
theorem Tj {m:Nat} (m7:m<=7) (rs:List RD):N7 m rs (F6 m)≠[]:=fun z=>by
 obtain ⟨_,_,hc⟩:=X9 m (by omega)
 have h:=Cs (Zm m rs) (F6 m) [] (List.contains_iff_mem.mp hc)
 rw [show (F6 m).foldl (Aj m rs) []=[] from z] at h
 cases h
noncomputable def Q5 (m:Nat) (rs:List RD):List Nat:=P4 [] (kyF (byF (L1 m (rs.filter fun r=>r.1))) (N7 m (rs.filter fun r=>r.1) (F6 m)))
theorem Adu (ps f:List Nat):(kyF ps f).length<=ps.length + 1:=by
 unfold kyF
 split
 ·exact Nat.le_succ _
 ·rw [Zv_,ZB]; omega
noncomputable def kn (k:Nat):Key:=.inl (k:Int)
theorem Xa {a b:Nat} (h:kn a=kn b):a=b:=by
 have:(a:Int)=(b:Int):=Sum.inl.inj h
 omega
noncomputable def dNk (ls:List Nat) (g:Nat->Nat):List (Key × V):=ls.map fun l=>(kn l,vN (g l))
theorem Jj (g:Nat->Nat) (x:Nat):∀ls:List Nat,Ci (dNk ls g) (kn x)=if x∈ls then some (vN (g x)) else none
 | []=>by rw [if_neg Zi_]; rfl
 | l :: ls=>by
  show Ci ((kn l,vN (g l)) :: dNk ls g) (kn x)=_
  by_cases e:l=x
  ·subst e
   rw [Ck rfl,if_pos Θc]
  ·rw [Cj (fun z=>e (Xa z)),Jj g x ls]
   by_cases h:x∈ls
   ·rw [if_pos h,if_pos (Θd _ h)]
   ·rw [if_neg h,if_neg fun z=>h ((Zg_.mp z).resolve_left fun w=>e w.symm)]
theorem Aa1 (g:Nat->Nat) (ls:List Nat) (x v:Nat):Bo (dNk ls g) (kn x) (vN v)=dNk (if x∈ls then ls else ls++[x]) fun l=>if l=x then v else g l:=by
 unfold Bo
 rw [Hc,Jj]
 by_cases h:x∈ls
 ·rw [if_pos h,if_pos (show (some (vN (g x))).isSome=true from rfl),if_pos h]
  unfold dNk
  rw [List.map_map]
  refine List.map_congr_left fun l hl=>?_
  show (if kn l=kn x then (kn l,vN v) else (kn l,vN (g l)))=(kn l,vN (if l=x then v else g l))
  by_cases e:l=x
  ·rw [if_pos (by rw [e]),if_pos e]
  ·rw [if_neg (fun z=>e (Xa z)),if_neg e]
 ·rw [if_neg h,if_neg (show ¬((none:Option V)).isSome=true from Zf_),if_neg h]
  unfold dNk
  rw [Zw_]
  congr 1
  ·refine List.map_congr_left fun l hl=>?_
   show (kn l,vN (g l))=(kn l,vN (if l=x then v else g l))
   rw [if_neg (fun e:l=x=>h (by rw [<-e]; exact hl))]
  ·show [(kn x,vN v)]=[(kn x,vN (if x=x then v else g x))]
   rw [if_pos rfl]
theorem Vt (ls:List Nat) (g:Nat->Nat):(dNk ls g).map (·.2)=(ls.map g).map vN:=by
 unfold dNk
 rw [List.map_map,List.map_map]; rfl
theorem Aav (c:List RD) (r:RD):Bo (dNk (L3 c) (ptN c)) (kn r.2.1) (vN (ptN c r.2.1|||r.2.2))=dNk (L3 (c++[r])) (ptN (c++[r])):=by
 rw [Aa1,<-Am]
 congr 1
 funext l
 rw [Jz]
 by_cases e:l=r.2.1
 ·rw [if_pos e,if_pos e.symm,e]
 ·rw [if_neg e,if_neg fun z=>e z.symm]
theorem Adb (c:List RD) (x:Nat):(Ci (dNk (L3 c) (ptN c)) (kn x)).getD (vN x)=vN (ptN c x):=by
 rw [Jj]
 by_cases h:x∈L3 c
 ·rw [if_pos h]; rfl
 ·rw [if_neg h,Aeo h]; rfl
theorem Aa0 (ls:List Nat) (g:Nat->Nat):(dNk ls g).length=ls.length:=Θl _
noncomputable def Mz (K:Θf):Sp:=fun vs H Q _=>∃(m:Nat) (rl:Addr) (rs:List Rl),vs=[.ref rl]/\SqL K H rl (rs.map fun r=>V.ref r.r)/\RulesAt H m rs/\rs.length<=160/\
 ∀(p:Addr) (H':Hp),Same H H'->H p=none->H' p=some (.lst ((byF (rs.map Rl.d)).map vN))->Q (.ref p) H'
noncomputable def Iy (K:Θf):Sp:=fun vs H Q _=>∃(a b:Addr) (ps f:List Nat),vs=[.ref a,.ref b]/\H a=some (.lst (ps.map vN))/\H b=some (.lst (f.map vN))/\ps.length<=180/\f.length<=180/\f≠[]/\
 ∀(p:Addr) (H':Hp),Same H H'->H' p=some (.lst ((kyF ps f).map vN))->Q (.ref p) H'
noncomputable def Rt (K:Θf):Sp:=fun vs H Q _=>∃(a:Addr) (ps:List Nat),vs=[.ref a]/\SqL K H a (ps.map vN)/\ps.length<=190/\
 ∀(p:Addr) (H':Hp),Same H H'->H p=none->H' p=some (.lst ((P4 [] ps).map vN))->Q (.ref p) H'
noncomputable def Ac4 (K:Θf) (CT:Addr):Sp:=fun vs H Q E=>∃(m:Nat) (rl:Addr) (rs:List Rl),vs=[vN m,.ref rl]/\m<=7/\SqL K H rl (rs.map fun r=>V.ref r.r)/\RulesAt H m rs/\rs.length<=20/\
 (10 < (Q5 m (rs.map Rl.d)).length->∀H',Same H H'->E (.ref CT) none H')/\((Q5 m (rs.map Rl.d)).length<=10->∀(p:Addr) (H':Hp),Same H H'->H p=none->H' p=some (.lst ((Q5 m (rs.map Rl.d)).map vN))->Q (.ref p) H')
end L2
namespace L2
open PySem PySem.Spec PyProof.Rows
open Classical in
noncomputable def fixF (m:Nat) (rs:List RD) (x:Nat):Nat:=if h:∃fx bs,Blocks m rs x fx bs then h.choose else 0
theorem Blocks.fixF {m x fx:Nat} {rs:List RD} {bs:List Nat} (B:Blocks m rs x fx bs):L2.fixF m rs x=fx:=by
 have h:∃fx bs,Blocks m rs x fx bs:=⟨fx,bs,B⟩
 obtain ⟨bs',B'⟩:=h.choose_spec
 unfold L2.fixF
 rw [dif_pos h]
 exact (B'.same B fun d=>Iff.rfl).1
theorem Aa3 (m:Nat) (rs:List RD) (x:Nat):fixF m rs x < 2 ^ m:=by
 have pw:0 < 2 ^ m:=Nat.two_pow_pos m
 unfold fixF
 by_cases h:∃fx bs,Blocks m rs x fx bs
 ·rw [dif_pos h]
  obtain ⟨bs',B'⟩:=h.choose_spec
  have:=B'.good.sum
  omega
 ·rw [dif_neg h]; exact pw
noncomputable def R6 (m:Nat) (rs:List RD) (z p:Nat):Nat:=(fixF m rs (z&&&p)&&&p) - ((fixF m rs (z&&&p)&&&p)&&&z)
theorem Hw {m z p:Nat} {rs:List RD} (k:Nat):D5 (R6 m rs z p) k↔D5 (fixF m rs (z&&&p)) k/\D5 p k/\¬D5 z k:=by
 unfold R6
 rw [W7,M0,and_assoc]
theorem Qp (m:Nat) (rs:List RD) (z p:Nat):R6 m rs z p < 2 ^ m:=by
 have h1:=Aa3 m rs (z&&&p)
 have h2:fixF m rs (z&&&p)&&&p<=fixF m rs (z&&&p):=Nat.and_le_left
 unfold R6
 omega
noncomputable def gB (m:Nat) (rs:List RD) (z:Nat) (ps:List Nat) (i:Nat):Bool:=!decide (R6 m rs z (ps.getD i 0)=0)
noncomputable def P5 (m:Nat) (rs:List RD) (ps:List Nat) (z:Nat):Option (Nat × Nat):=((List.range ps.length).find? (gB m rs z ps)).map fun i=>(i,R6 m rs z (ps.getD i 0))
theorem Gx {m z:Nat} {rs:List RD} {ps:List Nat} {u:Nat × Nat} (h:P5 m rs ps z=some u):∃p,ps[u.1]? = some p/\u.2=R6 m rs z p/\u.2≠0:=by
 unfold P5 at h
 rw [Option.map_eq_some_iff] at h
 obtain ⟨i,hi,rfl⟩:=h
 have h1:=List.find?_some hi
 have h2:=List.mem_range.mp (List.mem_of_find?_eq_some hi)
 have e:ps[i]? = some ps[i]:=Θh h2
 have ed:ps.getD i 0=ps[i]:=by rw [Zu_,e]; rfl
 refine ⟨ps[i],e,by show R6 m rs z (ps.getD i 0)=_; rw [ed],?_⟩
 unfold gB at h1
 rw [Bool.not_eq_true',decide_eq_false_iff_not] at h1
 exact h1
theorem Ij {n i:Nat} (h:i < n):(List.range n)[i]? = some i:=by
 rw [Θh (by rw [List.length_range]; exact h),List.getElem_range]
theorem Ux {m z i p:Nat} {rs:List RD} {ps:List Nat} (h0:((List.range ps.length).take i).find? (gB m rs z ps)=none) (e:ps[i]? = some p) (h:R6 m rs z p≠0):P5 m rs ps z=some (i,R6 m rs z p):=by
 have hi:i < ps.length:=(Ze_.mp e).1
 have ed:ps.getD i 0=p:=by rw [Zu_,e]; rfl
 unfold P5
 rw [Fo h0 (Ij hi) (by unfold gB; rw [ed,decide_eq_false h]; rfl)]
 show some (i,R6 m rs z (ps.getD i 0))=_
 rw [ed]
theorem Qa {m z i p:Nat} {rs:List RD} {ps:List Nat} (h0:((List.range ps.length).take i).find? (gB m rs z ps)=none) (e:ps[i]? = some p) (h:R6 m rs z p=0):((List.range ps.length).take (i + 1)).find? (gB m rs z ps)=none:=by
 have hi:i < ps.length:=(Ze_.mp e).1
 have ed:ps.getD i 0=p:=by rw [Zu_,e]; rfl
 exact Y3 h0 (Ij hi) (by unfold gB; rw [ed,decide_eq_true h]; exact Bool.false_ne_true)
theorem Qb {m z i:Nat} {rs:List RD} {ps:List Nat} (h0:((List.range ps.length).take i).find? (gB m rs z ps)=none) (h:ps.length<=i):P5 m rs ps z=none:=by
 rw [List.take_of_length_le (by rw [List.length_range]; exact h)] at h0
 unfold P5
 rw [h0]; rfl
noncomputable def X7 (m:Nat) (rs:List RD) (ps:List Nat):Nat->Nat->List (Nat × Nat) × Nat
 | 0,z=>([],z)
 | n + 1,z=>match P5 m rs ps z with
  | none=>([],z)
  | some u=>(u :: (X7 m rs ps n (z|||u.2)).1,(X7 m rs ps n (z|||u.2)).2)
structure GAt (m:Nat) (rs:List RD) (ps:List Nat) (z0:Nat) (gs:List (Nat × Nat)) (z n:Nat):Prop where
 lt:z < 2 ^ m
 fuel:2 ^ m - 1 - z<=n
 egs:gs++(X7 m rs ps n z).1=(X7 m rs ps 128 z0).1
 ez:(X7 m rs ps n z).2=(X7 m rs ps 128 z0).2
 len:gs.length + n<=128
 sub:z0&&&z=z0
theorem GAt.begin {m z0:Nat} {rs:List RD} {ps:List Nat} (m7:m<=7) (hz:z0 < 2 ^ m):GAt m rs ps z0 [] z0 128:=
 ⟨hz,by have:=W4 m7; omega,rfl,rfl,Zd_ _,Nat.and_self _⟩
theorem GAt.next {m z0 z n:Nat} {rs:List RD} {ps:List Nat} {gs:List (Nat × Nat)} {u:Nat × Nat} (G:GAt m rs ps z0 gs z n) (h:P5 m rs ps z=some u):∃n',n=n' + 1/\GAt m rs ps z0 (gs++[u]) (z|||u.2) n':=by
 obtain ⟨p,hp,e,ne⟩:=Gx h
 have hlt:z|||u.2 < 2 ^ m:=Nat.or_lt_two_pow G.lt (by rw [e]; exact Qp _ _ _ _)
 have hle:z<=z|||u.2:=Nat.left_le_or
 have hne:z|||u.2≠z:=fun w=>by
  obtain ⟨k,hk⟩:∃k,D5 u.2 k:=Nat.exists_testBit_of_ne_zero ne
  have h1:D5 (z|||u.2) k:=(V4 _ _ _).mpr (.inr hk)
  rw [w] at h1
  rw [e] at hk
  exact ((Hw k).mp hk).2.2 h1
 have hf:=G.fuel
 cases n with
 | zero=>exact absurd hlt (by omega)
 | succ n=>
  have hg:=G.egs
  have hz:=G.ez
  unfold X7 at hg hz
  rw [h] at hg hz
  have hl:=G.len
  refine ⟨n,rfl,hlt,by omega,?_,?_,by rw [Zv_]; show gs.length + 1 + n<=128; omega,?_⟩
  ·rw [Zy_]; exact hg
  ·exact hz
  ·refine Nat.eq_of_testBit_eq fun k=>?_
   have hs:=G.sub
   rw [Bool.eq_iff_iff]
   show D5 (z0&&&(z|||u.2)) k↔D5 z0 k
   rw [M0,V4]
   refine ⟨fun w=>w.1,fun w=>⟨w,.inl ?_⟩⟩
   rw [<-hs] at w
   exact ((M0 _ _ _).mp w).2
theorem GAt.done {m z0 z n:Nat} {rs:List RD} {ps:List Nat} {gs:List (Nat × Nat)} (G:GAt m rs ps z0 gs z n) (h:P5 m rs ps z=none):gs=(X7 m rs ps 128 z0).1/\z=(X7 m rs ps 128 z0).2:=by
 have hg:=G.egs
 have hz:=G.ez
 cases n with
 | zero=>
  unfold X7 at hg hz
  rw [List.append_nil] at hg
  exact ⟨hg,hz⟩
 | succ n=>
  unfold X7 at hg hz
  rw [h] at hg hz
  rw [List.append_nil] at hg
  exact ⟨hg,hz⟩
noncomputable def Acr (H:Hp) (y:Nat) (R:List (Nat × Nat) × Nat) (t:Addr):Prop:=
 (y&&&R.2=y/\∃(q:Addr) (sw:List SW),H q=some (.lst (sw.map fun w=>V.ref w.1))/\StepsAt H sw/\sw.map (·.2)=R.1/\sw.length<=300/\H t=some (.tup [.str "yes",.ref q]))\/
 (y&&&R.2≠y/\H t=some (.tup [.str "no",vN R.2]))
noncomputable def InM (m:Nat) (ps:List Nat):Prop:=∀p∈ps,p < 2 ^ m
noncomputable def Ed (K:Θf):Sp:=fun vs H Q _=>∃(m z:Nat) (rl pl:Addr) (rs:List Rl) (ps:List Nat),vs=[vN m,.ref rl,.ref pl,vN z]/\m<=7/\z < 2 ^ m/\SqL K H rl (rs.map fun r=>V.ref r.r)/\RulesAt H m rs/\rs.length<=200/\SqL K H pl (ps.map vN)/\InM m ps/\
 (∀H',Same H H'->P5 m (rs.map Rl.d) ps z=none->Q .non H')/\∀(u:Nat × Nat) (t:Addr) (H':Hp),Same H H'->P5 m (rs.map Rl.d) ps z=some u->H t=none->H' t=some (.tup [vN u.1,vN u.2])->Q (.ref t) H'
noncomputable def Afi (H:Hp) (m x:Nat) (rl pl r:Addr) (rs:List Rl) (ps:List Nat) (n:Nat) (σ:St) (H':Hp):Prop:=
 ∃(z:Nat) (gl:Addr) (sw:List SW) (v:V),σ=[some (vN m),some (.ref rl),some (.ref pl),some (.ref r),some (vN z),some (.ref gl),some v]/\GAt m (rs.map Rl.d) ps x (sw.map (·.2)) z n/\Same H H'/\H gl=none/\H' gl=some (.lst (sw.map fun w=>V.ref w.1))/\StepsAt H' sw/\
  ((P5 m (rs.map Rl.d) ps z=none/\v = .non)\/∃u t,P5 m (rs.map Rl.d) ps z=some u/\v = .ref t/\H' t=some (.tup [vN u.1,vN u.2]))
end L2
namespace L2
open PySem PySem.Spec PyProof.Rows
theorem Yt {rs:List RD} {m:Nat}:∀(n:Nat) (s:US),muS s.bs<=n->Good m s.fx s.bs->∃t,Run rs s t
 | 0,s,hn,g=>by
  cases e:L5 rs s.bs rs.length with
  | nil=>exact ⟨s,.done e⟩
  | cons u us=>
   have:=(Z3 (m:=m) (rs:=rs) (s:=s) (u:=u) g (by rw [e]; exact Θc ..)).2
   omega
 | n + 1,s,hn,g=>by
  cases e:L5 rs s.bs rs.length with
  | nil=>exact ⟨s,.done e⟩
  | cons u us=>
   obtain ⟨g',mu⟩:=Z3 (m:=m) (rs:=rs) (s:=s) (u:=u) g (by rw [e]; exact Θc ..)
   obtain ⟨t,R⟩:=Yt n (S5 rs s u) (by omega) g'
   exact ⟨t,.step e R⟩
theorem Sf {m z:Nat} {rs:List RD} {ps:List Nat} {u:Nat × Nat} (hz:z < 2 ^ m) (h:P5 m rs ps z=some u):z < z|||u.2/\z|||u.2 < 2 ^ m:=by
 obtain ⟨p,hp,e,ne⟩:=Gx h
 have hlt:z|||u.2 < 2 ^ m:=Nat.or_lt_two_pow hz (by rw [e]; exact Qp _ _ _ _)
 have hle:z<=z|||u.2:=Nat.left_le_or
 have hne:z|||u.2≠z:=fun w=>by
  obtain ⟨k,hk⟩:∃k,D5 u.2 k:=Nat.exists_testBit_of_ne_zero ne
  have h1:D5 (z|||u.2) k:=(V4 _ _ _).mpr (.inr hk)
  rw [w] at h1
  rw [e] at hk
  exact ((Hw k).mp hk).2.2 h1
 exact ⟨by omega,hlt⟩
theorem Mw {m:Nat} {rs:List RD} {ps:List Nat}:∀(n z:Nat),z < 2 ^ m->2 ^ m - 1 - z<=n->(X7 m rs ps n z).2 < 2 ^ m/\P5 m rs ps (X7 m rs ps n z).2=none
 | 0,z,hz,hn=>by
  refine ⟨hz,?_⟩
  show P5 m rs ps z=none
  cases e:P5 m rs ps z with
  | none=>rfl
  | some u=>
   have:=Sf hz e
   omega
 | n + 1,z,hz,hn=>by
  unfold X7
  cases e:P5 m rs ps z with
  | none=>exact ⟨hz,e⟩
  | some u=>
   have:=Sf hz e
   exact Mw n _ this.2 (by omega)
theorem Fb {a b:Nat} (h:∀k,D5 a k->D5 b k):a&&&b=a:=Qi fun k=>by
 rw [M0]
 exact ⟨fun z=>z.1,fun z=>⟨z,h k z⟩⟩
end L2
namespace L2
open PySem PySem.Spec PyProof.Rows
open Classical in
noncomputable def unfF (m:Nat) (rs:List RD) (x:Nat):US:=if h:∃t,Run rs ⟨x,E6 m x,[]⟩ t then h.choose else ⟨x,[],[]⟩
theorem Run.unfF {m x:Nat} {rs:List RD} {s:US} (R:Run rs ⟨x,E6 m x,[]⟩ s):L2.unfF m rs x=s:=by
 have h:∃t,Run rs ⟨x,E6 m x,[]⟩ t:=⟨s,R⟩
 unfold L2.unfF
 rw [dif_pos h]
 exact h.choose_spec.det R
noncomputable def K1 (p:Nat) (bs:List Nat):List Nat:=(bs.filter fun b=>!decide (b&&&p=0)).map fun b=>b&&&p
noncomputable def Ej (m:Nat) (rs:List RD) (p x:Nat):Nat:=(p&&&(unfF m rs x).fx) - ((p&&&(unfF m rs x).fx)&&&x)
noncomputable def Ab (m:Nat) (rs:List RD) (p x:Nat):Option Nat:=
 if p&&&(unfF m rs x).fx=p then none else if Ej m rs p x≠0 then some (Ej m rs p x) else
  if 1 < (K1 p (unfF m rs x).bs).length then (K1 p (unfF m rs x).bs).head? else none
noncomputable def Z6 (m:Nat) (rs:List RD) (p x:Nat):Option (Nat × Nat):=(Ab m rs p x).map fun g=>(x,g)
noncomputable def twF (m:Nat) (rs:List RD) (p:Nat):Option (Nat × Nat):=(Nw p).findSome? (Z6 m rs p)
theorem Sv {p:Nat} {bs:List Nat} (h:bs.Pairwise fun a b=>a&&&b=0):(K1 p bs).Pairwise fun a b=>a&&&b=0:=by
 unfold K1
 rw [List.pairwise_map]
 refine (h.filter _).imp fun {a b} e=>?_
 refine dis_iff.mpr fun k hk=>?_
 rw [Nat.testBit_and,Bool.and_eq_true] at hk
 rw [Nat.testBit_and,dis_iff.mp e k hk.1]; rfl
theorem Nr {p c:Nat} {bs:List Nat} (h:c∈K1 p bs):c≠0/\∃b∈bs,c=b&&&p:=by
 unfold K1 at h
 obtain ⟨b,hb,rfl⟩:=Θn h
 obtain ⟨h1,h2⟩:=List.mem_filter.mp hb
 refine ⟨fun e=>?_,b,h1,rfl⟩
 rw [Zr_ e] at h2
 cases h2
theorem Vh {m x p g:Nat} {rs:List RD} (hx:x < 2 ^ m) (h:Ab m rs p x=some g):g≠0/\(∀k,D5 g k->D5 p k)/\x|||g≠p:=by
 obtain ⟨s,R⟩:=Yt (rs:=rs) _ ⟨x,E6 m x,[]⟩ (Zd_ _) (Good.begin hx)
 have G:=(R.good (Good.begin hx)).1
 have e:=R.unfF
 have xf:∀k,D5 x k->D5 s.fx k:=fun k hk=>G.col.mpr ⟨V3 hx hk,fun b hb=>dis_iff.mp (R.apart0 hx hb) k hk⟩
 unfold Ab Ej at h
 rw [e] at h
 split at h
 ·cases h
 ·rename_i n1
  split at h
  ·rename_i n2
   injection h with h
   rw [h] at n2
   have gb:∀k,D5 g k↔(D5 p k/\D5 s.fx k)/\¬D5 x k:=fun k=>by rw [<-h,W7,M0]
   refine ⟨n2,fun k hk=>((gb k).mp hk).1.1,fun z=>n1 (Fb fun k hk=>?_)⟩
   rw [<-z,V4] at hk
   rcases hk with hk | hk
   ·exact xf k hk
   ·exact ((gb k).mp hk).1.2
  ·split at h
   ·rename_i n3
    have pw:=Sv (p:=p) G.pw
    have mem:=fun c=>Nr (c:=c) (p:=p) (bs:=s.bs)
    revert n3 h pw mem
    match K1 p s.bs with
    | []=>intro n3; cases n3
    | [_]=>intro n3; exact absurd n3 (Nat.lt_irrefl 1)
    | y :: c :: l=>
     intro n3 h pw mem
     injection h with h
     subst h
     obtain ⟨y0,b,hb,rfl⟩:=mem y (Θc ..)
     obtain ⟨c0,b',hb',ec⟩:=mem c (Θd _ (Θc ..))
     refine ⟨y0,fun k hk=>((M0 _ _ _).mp hk).2,fun z=>?_⟩
     obtain ⟨k,hk⟩:=Y1 c0
     have h1:=(List.pairwise_cons.mp pw).1 c (Θc ..)
     have h2:D5 b' k/\D5 p k:=(M0 _ _ _).mp (ec ▸ hk)
     have h3:=h2.2
     rw [<-z,V4] at h3
     rcases h3 with h3 | h3
     ·have:=dis_iff.mp (R.apart0 hx hb') k h3
      rw [show b'.testBit k=true from h2.1] at this
      cases this
     ·have:=dis_iff.mp h1 k h3
      rw [show c.testBit k=true from hk] at this
      cases this
   ·cases h
theorem Aa2 {p x:Nat} (h:x∈Nw p):x&&&p=x:=by
 unfold Nw T9 F1 at h
 obtain ⟨i,_,h⟩:=List.mem_flatMap.mp h
 have:=(List.mem_filter.mp h).2
 rw [Bool.and_eq_true] at this
 exact Zj_ this.1
structure TwP (p:Nat) (u:Nat × Nat):Prop where
 one:u.1|||u.2 < p
 oth:p - (p&&&u.2) < p
 all:∀k,D5 p k↔D5 (u.1|||u.2) k\/D5 (p - (p&&&u.2)) k
theorem Nj {m p:Nat} {rs:List RD} {u:Nat × Nat} (hp:p < 2 ^ m) (h:twF m rs p=some u):TwP p u:=by
 unfold twF at h
 obtain ⟨x,hx,e⟩:=List.exists_of_findSome?_eq_some h
 unfold Z6 at e
 obtain ⟨g,hg,rfl⟩:=Option.map_eq_some_iff.mp e
 have sx:=Aa2 hx
 have xp:∀k,D5 x k->D5 p k:=fun k hk=>((M0 _ _ _).mp (sx.symm ▸ hk)).2
 have lx:x < 2 ^ m:=by
  have:x&&&p<=p:=Nat.and_le_right
  rw [sx] at this
  omega
 obtain ⟨g0,gp,ne⟩:=Vh lx hg
 have e1:p&&&g=g:=by rw [Nat.and_comm]; exact Fb gp
 have l1:g<=p:=by have:p&&&g<=p:=Nat.and_le_left; rw [e1] at this; exact this
 have e2:(x|||g)&&&p=x|||g:=Fb fun k hk=>by
  rcases (V4 _ _ _).mp hk with z | z
  ·exact xp k z
  ·exact gp k z
 have l2:x|||g<=p:=by have:(x|||g)&&&p<=p:=Nat.and_le_right; rw [e2] at this; exact this
 refine ⟨Nat.lt_of_le_of_ne l2 ne,by show p - (p&&&g) < p; rw [e1]; omega,fun k=>?_⟩
 show _↔D5 (x|||g) k\/D5 (p - (p&&&g)) k
 rw [W7,V4]
 constructor
 ·intro hk
  by_cases z:D5 g k
  ·exact Or.inl (Or.inr z)
  ·exact Or.inr ⟨hk,z⟩
 ·rintro ((z | z) | z)
  ·exact xp k z
  ·exact gp k z
  ·exact z.1
theorem Afc {m p i j x:Nat} {rs:List RD} {u:Nat × Nat} (h0:(T9 p i).findSome? (Z6 m rs p)=none) (h1:((F1 p i).take j).findSome? (Z6 m rs p)=none) (hi:i < 8) (e:(F1 p i)[j]? = some x) (h:Z6 m rs p x=some u):twF m rs p=some u:=by
 unfold twF Nw
 have e1:∀d,∃z,T9 p (i + 1 + d)=T9 p (i + 1)++z:=fun d=>by
  induction d with
  | zero=>exact ⟨[],by rw [List.append_nil,Nat.add_zero]⟩
  | succ d ih=>obtain ⟨z,ez⟩:=ih; exact ⟨z++F1 p (i + 1 + d),by rw [<-Nat.add_assoc,U0,ez,Zy_]⟩
 obtain ⟨z,ez⟩:=e1 (7 - i)
 rw [show 8=i + 1 + (7 - i) by omega,ez,U0,List.findSome?_append,List.findSome?_append,h0]
 have hj:j < (F1 p i).length:=(Ze_.mp e).1
 have e2:F1 p i=(F1 p i).take j++x :: (F1 p i).drop (j + 1):=by
  have ex:(F1 p i)[j]=x:=(Ze_.mp e).2
  rw [<-ex,<-List.drop_eq_getElem_cons hj,List.take_append_drop]
 rw [e2,List.findSome?_append,h1,List.findSome?_cons,h]
 rfl
theorem Acm {m p i j x:Nat} {rs:List RD} (h1:((F1 p i).take j).findSome? (Z6 m rs p)=none) (e:(F1 p i)[j]? = some x) (h:Z6 m rs p x=none):((F1 p i).take (j + 1)).findSome? (Z6 m rs p)=none:=by
 rw [List.take_succ,e,List.findSome?_append,h1]
 simp [h]
theorem Aah {m p i j:Nat} {rs:List RD} (h0:(T9 p i).findSome? (Z6 m rs p)=none) (h1:((F1 p i).take j).findSome? (Z6 m rs p)=none) (hj:(F1 p i).length<=j):(T9 p (i + 1)).findSome? (Z6 m rs p)=none:=by
 rw [List.take_of_length_le hj] at h1
 rw [U0,List.findSome?_append,h0,h1]
 rfl
theorem Acn {m p i:Nat} {rs:List RD} (hp:p < 128) (hi:i < 9) (h0:(T9 p i).findSome? (Z6 m rs p)=none) (e:F1 p i=[]):twF m rs p=none:=by
 unfold twF
 rw [<-Rg p hp i hi e]
 exact h0
inductive Tr where
 | whole (p:Nat)
 | cut (p s g:Nat) (l r:Tr)
noncomputable def trF (m:Nat) (rs:List RD):Nat->Nat->Tr
 | 0,p=>.whole p
 | n + 1,p=>match twF m rs p with
  | none=>.whole p
  | some u=>.cut p u.1 u.2 (trF m rs n (u.1|||u.2)) (trF m rs n (p - (p&&&u.2)))
noncomputable def trP (m:Nat) (rs:List RD) (p:Nat):Tr:=trF m rs (p + 1) p
theorem La {m:Nat} {rs:List RD}:∀(n n' p:Nat),p < 2 ^ m->p < n->p < n'->trF m rs n p=trF m rs n' p
 | 0,_,_,_,h,_=>absurd h (Nat.not_lt_zero _)
 | _,0,_,_,_,h=>absurd h (Nat.not_lt_zero _)
 | n + 1,n' + 1,p,hp,h,h'=>by
  unfold trF
  cases e:twF m rs p with
  | none=>rfl
  | some u=>
   have z:=Nj hp e
   have z1:=z.one
   have z2:=z.oth
   show Tr.cut _ _ _ _ _=Tr.cut _ _ _ _ _
   rw [La n n' _ (by omega) (by omega) (by omega),La n n' (p - (p&&&u.2)) (by omega) (by omega) (by omega)]
theorem Gz {m p:Nat} {rs:List RD} (h:twF m rs p=none):trP m rs p = .whole p:=by
 unfold trP trF
 rw [h]
theorem Ha {m p:Nat} {rs:List RD} {u:Nat × Nat} (hp:p < 2 ^ m) (h:twF m rs p=some u):trP m rs p = .cut p u.1 u.2 (trP m rs (u.1|||u.2)) (trP m rs (p - (p&&&u.2))):=by
 have z:=Nj hp h
 have z1:=z.one
 have z2:=z.oth
 unfold trP
 conv=>lhs; unfold trF
 rw [h]
 show Tr.cut _ _ _ _ _=Tr.cut _ _ _ _ _
 rw [La p _ (u.1|||u.2) (by omega) (by omega) (Nat.lt_succ_self _),La p _ (p - (p&&&u.2)) (by omega) (by omega) (Nat.lt_succ_self _)]
noncomputable def Tr.cnt:Tr->Nat
 | .whole _=>1
 | .cut _ _ _ l r=>1 + l.cnt + r.cnt
noncomputable def Tr.lvs:Tr->List Nat
 | .whole p=>[p]
 | .cut _ _ _ l r=>l.lvs++r.lvs
noncomputable def Tr.dep:Tr->Nat
 | .whole _=>0
 | .cut _ _ _ l r=>max l.dep r.dep + 1
theorem Tr.lvs_le:∀t:Tr,t.lvs.length<=t.cnt
 | .whole _=>Zd_ _
 | .cut _ _ _ l r=>by
  have h1:=Tr.lvs_le l
  have h2:=Tr.lvs_le r
  unfold Tr.lvs Tr.cnt
  rw [Zv_]
  omega
theorem Hb {m:Nat} {rs:List RD}:∀(n p:Nat),p<=n->p < 2 ^ m->(trP m rs p).dep<=p
 | n,p,hn,hp=>by
  cases e:twF m rs p with
  | none=>rw [Gz e]; exact Zp_ _
  | some u=>
   have z:=Nj hp e
   have z1:=z.one
   have z2:=z.oth
   rw [Ha hp e]
   match n,hn with
   | 0,hn=>omega
   | n + 1,hn=>
    have h1:=Hb (m:=m) (rs:=rs) n _ (by omega:u.1|||u.2<=n) (by omega)
    have h2:=Hb (m:=m) (rs:=rs) n _ (by omega:p - (p&&&u.2)<=n) (by omega)
    show max _ _ + 1<=p
    omega
theorem Z5 {m:Nat} {rs:List RD}:∀(n p:Nat),p<=n->p < 2 ^ m->∀q∈(trP m rs p).lvs,q < 2 ^ m
 | n,p,hn,hp=>by
  cases e:twF m rs p with
  | none=>rw [Gz e]; intro q hq; rw [Θs hq]; exact hp
  | some u=>
   have z:=Nj hp e
   have z1:=z.one
   have z2:=z.oth
   rw [Ha hp e]
   match n,hn with
   | 0,hn=>omega
   | n + 1,hn=>
    intro q hq
    rcases Θa hq with hq | hq
    ·exact Z5 (m:=m) (rs:=rs) n _ (by omega:u.1|||u.2<=n) (by omega) q hq
    ·exact Z5 (m:=m) (rs:=rs) n _ (by omega:p - (p&&&u.2)<=n) (by omega) q hq
theorem Dq {p k b:Nat} {bs:List Nat} (h:bs[k]? = some b):K1 p (bs.take (k + 1))=K1 p (bs.take k)++(if b&&&p=0 then [] else [b&&&p]):=by
 unfold K1
 rw [List.take_succ,h,List.filter_append,Zw_]
 split
 ·rename_i z
  simp [z]
 ·rename_i z
  simp [z]
theorem Nq (p:Nat) (bs:List Nat) (k:Nat):(K1 p (bs.take k)).length<=k:=by
 unfold K1
 rw [Θl]
 exact Zo_ (List.length_filter_le _ _) (List.length_take_le _ _)
theorem Acb {p i x:Nat} (h:x∈F1 p i):x&&&p=x:=by
 unfold F1 at h
 have:=(List.mem_filter.mp h).2
 rw [Bool.and_eq_true] at this
 exact Zj_ this.1
end L2
namespace L2
open PySem PySem.Spec PyProof.Rows
theorem FnOk.calm {P:Program} {w:World} {K:Θf} {mg:Str->Option Value} {base:Heap} {k:Nat} {f:Addr} {fd:FuncData} {ps:List Str} {sp:Sp} (F:FnOk P w K mg base (CX1 P w) k f fd ps sp) :
  FnOk P w K mg base CX0 k f fd ps (fun vs H Q _=>sp vs H Q fun _ _ _=>False):=
 ⟨fun vs H Q _ h=>F.len vs H Q _ h,fun A outer s H args us vs Q E hr he hb hv hs=>codeAny_mono (F.run A outer s H args us vs Q _ hr he hb hv hs) fun r s' h=>by
  cases r with
  | error e=>
   obtain ⟨_,_,_,_,_,_,z⟩:=(show CX1 P w outer H s (fun _ _ _=>False) e s' from h)
   exact z.elim
  | ok fl=>
   cases fl with
   | ret u=>exact h
   | next=>exact h
   | brk=>exact h
   | cont=>exact h⟩
noncomputable def Ag4:Option Nat->V
 | none=>.non
 | some g=>vN g
noncomputable def Afk (H:Hp):Option (Nat × Nat)->V->Prop
 | none,v=>v = .non
 | some u,v=>∃a,v = .ref a/\H a=some (.tup [vN u.1,vN u.2])
noncomputable def TreeV (H:Hp):Tr->V->Prop
 | .whole p,v=>∃a,v = .ref a/\H a=some (.tup [.str "whole",vN p])
 | .cut p s g l r,v=>∃a x y,v = .ref a/\H a=some (.tup [.str "cut",vN p,vN s,vN g,x,y])/\TreeV H l x/\TreeV H r y
theorem TreeV.same {H H':Hp} (e:Same H H'):∀{t:Tr} {v:V},TreeV H t v->TreeV H' t v
 | .whole _,_,⟨a,h1,h2⟩=>⟨a,h1,e _ _ h2⟩
 | .cut _ _ _ _ _,_,⟨a,x,y,h1,h2,h3,h4⟩=>⟨a,x,y,h1,e _ _ h2,h3.same e,h4.same e⟩
noncomputable def Ro (K:Θf):Sp:=fun vs H Q _=>∃(m p x:Nat) (rl:Addr) (rs:List Rl),vs=[vN m,.ref rl,vN p,vN x]/\m<=7/\x < 2 ^ m/\SqL K H rl (rs.map fun r=>V.ref r.r)/\RulesAt H m rs/\rs.length<=200/\
 ∀H',Same H H'->Q (Ag4 (Ab m (rs.map Rl.d) p x)) H'
noncomputable def Se (K:Θf):Sp:=fun vs H Q _=>∃(m p:Nat) (rl:Addr) (rs:List Rl),vs=[vN m,.ref rl,vN p]/\m<=7/\p < 2 ^ m/\SqL K H rl (rs.map fun r=>V.ref r.r)/\RulesAt H m rs/\rs.length<=200/\
 ∀v H',Same H H'->Afk H' (twF m (rs.map Rl.d) p) v->Q v H'
noncomputable def Aaa (K:Θf) (n:Nat):Sp:=fun vs H Q _=>∃(m p:Nat) (rl:Addr) (rs:List Rl),vs=[vN m,.ref rl,vN p]/\m<=7/\p < 2 ^ m/\p < n/\SqL K H rl (rs.map fun r=>V.ref r.r)/\RulesAt H m rs/\rs.length<=200/\
 ∀v H',Same H H'->TreeV H' (trP m (rs.map Rl.d) p) v->Q v H'
noncomputable def Rr (n:Nat):Sp:=fun vs H Q _=>∃(v:V) (t:Tr),vs=[v]/\TreeV H t v/\t.dep < n/\Q (vN t.cnt) H
noncomputable def Ir (K:Θf) (CT:Addr):Sp:=fun vs H Q E=>∃(m:Nat) (rl:Addr) (rs:List Rl),vs=[vN m,.ref rl]/\m<=7/\SqL K H rl (rs.map fun r=>V.ref r.r)/\RulesAt H m rs/\rs.length<=200/\
 (60 < (trP m (rs.map Rl.d) (2 ^ m - 1)).cnt->∀H',Same H H'->E (.ref CT) none H')/\((trP m (rs.map Rl.d) (2 ^ m - 1)).cnt<=60->∀v H',Same H H'->TreeV H' (trP m (rs.map Rl.d) (2 ^ m - 1)) v->Q v H')
noncomputable def Nd (n:Nat):Sp:=fun vs H Q _=>∃(v:V) (t:Tr),vs=[v]/\TreeV H t v/\t.dep < n/\t.cnt<=60/\∀l H',Same H H'->H l=none->H' l=some (.lst (t.lvs.map vN))->Q (.ref l) H'
theorem Sh:∀{ys:List Str} {us:List Value},Vals (ys.map V.str) us->∃l:List (Str × Tok),us=strValues l/\l.map (·.1)=ys
 | [],_,.nil=>⟨[],rfl,rfl⟩
 | y :: ys,_,.cons r t=>by
  obtain ⟨tk,rfl⟩:=r
  obtain ⟨l,rfl,e⟩:=Sh t
  exact ⟨(y,tk) :: l,rfl,by rw [List.map_cons,e]⟩
theorem Dp:∀l:List (Str × Tok),Vals ((l.map (·.1)).map V.str) (strValues l)
 | []=>.nil
 | (y,tk) :: l=>.cons ⟨tk,rfl⟩ (Dp l)
section
variable {X:Cx}
theorem N3:MtR X "str.join" (fun x xs H Q=>∃(z:Str) (D:Addr) (ys:List Str),x = .str z/\xs=[.ref D]/\SqL X.K H D (ys.map V.str)/\JoinOk z ys=true/\Q (.str (Txt.join z ys)) H):=by
 intro pins s σ H x xs v us Q I rx rv h
 obtain ⟨z,D,ys,rfl,rfl,hD,ok,q⟩:=h
 obtain ⟨tk,rfl⟩:=rx
 obtain ⟨u,rfl,ru⟩:=rv.one
 cases ru
 obtain ⟨its,r,hl,_⟩:=I.list hD
 obtain ⟨l,rfl,e⟩:=Sh r
 exact SC.join hl.isList e ok fun t' k=>⟨.str _,H,I.tok k,⟨t',rfl⟩,q⟩
theorem Xi:MtR X "str.split" (fun x xs H Q=>∃z y:Str,x = .str z/\xs=[.str y]/\(y.length == 0)=false/\z.length<=1000/\(Txt.split z y).length<=1000/\∀D,H D=none->Q (.ref D) (upd H D (.lst ((Txt.split z y).map V.str)))):=by
 intro pins s σ H x xs v us Q I rx rv h
 obtain ⟨z,y,rfl,rfl,hy,hz,hn,q⟩:=h
 obtain ⟨tk,rfl⟩:=rx
 obtain ⟨u,rfl,ru⟩:=rv.one
 obtain ⟨tk2,rfl⟩:=ru
 have fin:∀(l:List (Str × Tok)) (k:Nat),l.map (·.1)=Txt.split z y->EP X pins σ Q (.ref s.heap.objs.size) { s with toks:=k,heap:=s.heap.push { cls:=.type "list",data:=.seq (strValues l).toArray } }:=fun l k e=>by
  refine ⟨.ref s.heap.objs.size,_,I.laid (t':=k) (o:=.lst ((Txt.split z y).map V.str)) (fun b ob q=>Zc_ _ q) (Zd_ _) ?_,rfl,q _ (I.hok.fresh (Zd_ _))⟩
  refine ⟨by rw [Θl]; exact Nat.le_of_lt (D0 hn),strValues l,0,by rw [<-e]; exact Dp l,Zm_ _ rfl⟩
 cases h1:(decide (z.length < y.length) || decide (Builtin.Str.strKind z < Builtin.Str.strKind y))
 ·cases hf:(Builtin.Str.occurrences z y 0 z.length (z.length + 1)).isEmpty
  ·have es:Txt.split z y=Builtin.Str.partsBetween z (Builtin.Str.occurrences z y 0 z.length (z.length + 1)) y.length:=(if_neg (ne_true_of_eq_false h1)).trans (if_neg (ne_true_of_eq_false hf))
   refine call_meets F.slot_str_split (typeIs_str _ _ _) F.entry_str_split (F.args_str_split_2 _ _) (meets_str_split_sep z y tk tk2 h1 hy hf (Nat.le_of_lt (D0 hz)) (by rw [<-es]; exact Nat.le_of_lt (D0 hn))) ?_
   show wants _ _ _ { s with toks:=_,heap:=s.heap.push { cls:=.type "list",data:=.seq (strsFrom s.toks (Builtin.Str.partsBetween z (Builtin.Str.occurrences z y 0 z.length (z.length + 1)) y.length)).toArray } }
   rw [strsFrom_eq]
   exact fin (numbered s.toks _) _ ((numbered_texts _ _).trans es.symm)
  ·have es:Txt.split z y=[z]:=(if_neg (ne_true_of_eq_false h1)).trans (if_pos hf)
   exact call_meets F.slot_str_split (typeIs_str _ _ _) F.entry_str_split (F.args_str_split_2 _ _) (meets_str_split_not_found z y tk tk2 h1 hy hf) (fin [(z,tk)] s.toks es.symm)
 ·have es:Txt.split z y=[z]:=if_pos h1
  exact call_meets F.slot_str_split (typeIs_str _ _ _) F.entry_str_split (F.args_str_split_2 _ _) (meets_str_split_cannot_occur z y tk tk2 h1) (fin [(z,tk)] s.toks es.symm)
theorem Ae2:SlR X (fun x lo hi H Q=>∃z:Str,x = .str z/\z.length<=1000/\Q (.str (Txt.slice z lo hi)) H):=by
 intro pins s σ H x v vl vu lo hi sl Q I rx hs pl pu h
 obtain ⟨z,rfl,hz,q⟩:=h
 obtain ⟨tk,rfl⟩:=rx
 refine ⟨"str",_,F.slot_str_getitem.lookup,typeIs_str _ _ _,?_⟩
 have fin:∀{l u:Option (Int × Tok)},l.map (·.1)=lo->u.map (·.1)=hi->s.heap.IsSlice sl l u none->wpAny (model X.prog X.w) X.A (getItem (.str z tk) (.ref sl)) (EP X pins σ Q) X.xe s:=fun {l u} e1 e2 h=>by
  refine wpAny_getItem_str_slice h rfl (post_val_or_str ⟨?_,fun t' k=>?_⟩)
  ·show (Txt.slice z (l.map (·.1)) (u.map (·.1))).length<=sizeLine
   exact Zo_ (Txt.slice_le _ _ _) (Nat.le_of_lt (D0 hz))
  ·refine ⟨.str (Txt.slice z lo hi),H,I.tok k,⟨t',?_⟩,q⟩
   rw [<-e1,<-e2]
   rfl
 cases pl with
 | none=>
  cases pu with
  | none=>exact fin (l:=none) (u:=none) rfl rfl hs
  | int j tj=>exact fin (l:=none) (u:=some (j,tj)) rfl rfl hs
 | int i ti=>
  cases pu with
  | none=>exact fin (l:=some (i,ti)) (u:=none) rfl rfl hs
  | int j tj=>exact fin (l:=some (i,ti)) (u:=some (j,tj)) rfl rfl hs
noncomputable def Ahh (te:TE):TE:=fun σ H Q=>te σ H fun x H1=>∃z:Str,x = .str z/\(reprText z).length<=100000/\∀y,Q (.str y) H1
theorem Aej {e:Expr} {te:TE} {b:Str} {j2:Nat} {p2 p3 pos:Pos} (he:PE X e te) (h2:b.length<=1000:=by decide):PE X (.JoinedStr [.FormattedValue e 114 none p2,.Constant (.str b) j2 p3] pos) (Ahh te):=by
 intro pins s σ H Q I h
 have sl:(200000:Nat) < sizeLine:=by rw [sizeLine_eq]; decide
 refine JoinedStr_many (joinParts_cons (wpAny_FormattedValue_repr (thn (he pins s σ H _ I h) fun u s1 ⟨v,H1,I1,r,z,ev,hz,q⟩=>?_)))
 subst ev
 obtain ⟨tk,rfl⟩:=r
 refine wpAny_pyReprObj_str ?_ (by omega)
 have he2:(Str.empty++reprText z).length=(reprText z).length:=by rw [strLen_append]; exact Nat.zero_add _
 refine formatField_str (fun t' k=>⟨by rw [he2]; omega,?_⟩) (by omega)
 have hz3:(Str.empty++reprText z++b).length<=101000:=by
  rw [strLen_append,he2]
  omega
 exact joinParts_cons (Calls.Constant_str ⟨by omega,joinParts_nil ⟨.str _,H1,I1.tok _,⟨_,rfl⟩,q _⟩ (by omega)⟩)
end
end L2
namespace L2
open PySem PySem.Spec PyProof.Rows
open Builtin.Str (occurrences subAt strSub partsBetween)
open PySem.StrLaws (occBody occ_eq subAt_one occ_chain ChainTo partsFrom partsBetween_eq join_split)
section
variable {x:Str} {c:Nat}
noncomputable def Aen (x:Str) (c:Nat) (i:Nat):Bool:=decide (x.cps.toList[i]? = some c)
theorem Jr:∀(n a:Nat) (st:Array Nat × Nat),st.2<=a->st.1.size<=a->a + n<=x.length + 1->
  (forIn (List.range' a n) st (occBody x ⟨#[c]⟩ x.length (x.length + 1))).run.fst.toList=st.1.toList++(List.range' a n).filter (Aen x c)
 | 0,a,st,_,_,_=>by simp
 | n + 1,a,st,h1,h2,h3=>by
  rw [List.range'_succ,List.forIn_cons]
  unfold occBody
  by_cases hc:x.cps.toList[a]? = some c
  ·obtain ⟨k1,k2⟩:=(subAt_one x c a).mpr hc
   rw [if_pos ⟨⟨⟨by omega,h1⟩,k1⟩,k2⟩]
   have ih:=Jr n (a + 1) (st.1.push a,a + (⟨#[c]⟩:Str).length) (Nat.le_refl _) (by simp; omega) (by omega)
   refine Eq.trans ih ?_
   rw [List.filter_cons_of_pos (by exact Zr_ hc),Array.toList_push,Zy_]
   rfl
  ·have no:¬(((st.1.size < x.length + 1/\st.2<=a)/\a + (⟨#[c]⟩:Str).length<=x.length)/\subAt x ⟨#[c]⟩ a=true):=fun z=>hc ((subAt_one x c a).mp ⟨z.1.2,z.2⟩)
   rw [if_neg no]
   have ih:=Jr n (a + 1) (st.1,st.2) (by show st.2<=a + 1; omega) (by show st.1.size<=a + 1; omega) (by omega)
   refine Eq.trans ih ?_
   rw [List.filter_cons_of_neg (by intro z; exact hc (Zj_ z))]
theorem Qy:occurrences x ⟨#[c]⟩ 0 x.length (x.length + 1)=(List.range' 0 (x.length + 1)).filter (Aen x c):=by
 rw [occ_eq]
 have:=Jr (x:=x) (c:=c) (x.length + 1) 0 (#[],0) (Zd_ _) (Zd_ _) (by omega)
 simpa using this
theorem Si {a b k:Nat} (h:k∈(strSub x a b).cps.toList):∃i,a<=i/\i < b/\x.cps.toList[i]? = some k:=by
 rw [StrLaws.strSub_toList] at h
 obtain ⟨j,hj⟩:=List.getElem?_of_mem h
 rw [List.getElem?_take] at hj
 split at hj
 ·rw [List.getElem?_drop] at hj
  exact ⟨a + j,by omega,by omega,hj⟩
 ·cases hj
theorem Fz:∀{cuts:List Nat} {a f:Nat},ChainTo x ⟨#[c]⟩ x.length a cuts f->(∀i,a<=i->x.cps.toList[i]? = some c->i∈cuts)->∀p∈partsFrom x 1 a cuts,c∉p.cps.toList
 | [],a,f,_,h,p,hp=>by
  rw [Θs hp]
  intro hc
  obtain ⟨i,h1,_,h3⟩:=Si hc
  exact absurd (h i h1 h3) Zi_
 | b :: r,a,f,hch,h,p,hp=>by
  have low:∀{r:List Nat} {a f:Nat},ChainTo x ⟨#[c]⟩ x.length a r f->∀i∈r,a<=i:=fun {r}=>by
   induction r with
   | nil=>exact fun _ i hi=>absurd hi Zi_
   | cons d r ih=>
    intro a f hc i hi
    rcases Zg_.mp hi with rfl | hi
    ·exact hc.1
    ·exact Zo_ hc.1 (Zo_ (Nat.le_add_right _ _) (ih hc.2.2 i hi))
  rcases Zg_.mp hp with rfl | hp
  ·intro hc
   obtain ⟨i,h1,h2,h3⟩:=Si hc
   rcases Zg_.mp (h i h1 h3) with rfl | hi
   ·omega
   ·have:=low hch.2.2 i hi
    have e1:(⟨#[c]⟩:Str).length=1:=rfl
    omega
  ·refine Fz (cuts:=r) (a:=b + 1) hch.2.2 (fun i h1 h3=>?_) p hp
   rcases Zg_.mp (h i (by have:=hch.1; omega) h3) with rfl | hi
   ·omega
   ·exact hi
theorem Pw (hc:c < 256):∀p∈Txt.split x ⟨#[c]⟩,c∉p.cps.toList:=by
 intro p hp
 have k1:Builtin.Str.strKind ⟨#[c]⟩=1:=by
  unfold Builtin.Str.strKind
  rw [if_pos (by simpa using hc)]
 have k2:1<=Builtin.Str.strKind x:=by
  unfold Builtin.Str.strKind
  split
  ·exact Zd_ _
  ·split <;> decide
 have none:(occurrences x ⟨#[c]⟩ 0 x.length (x.length + 1)).isEmpty=true->c∉x.cps.toList:=fun h hm=>by
  obtain ⟨i,hi⟩:=List.getElem?_of_mem hm
  have hl:i < x.length:=by
   have:=(Ze_.mp hi).1
   simpa [Str.length] using this
  rw [Qy,List.isEmpty_iff] at h
  have:i∈(List.range' 0 (x.length + 1)).filter (Aen x c):=List.mem_filter.mpr ⟨by simp; omega,decide_eq_true hi⟩
  rw [h] at this
  exact absurd this Zi_
 unfold Txt.split at hp
 split at hp
 ·rename_i h
  rw [Θs hp]
  intro hm
  rw [Bool.or_eq_true,decide_eq_true_iff,decide_eq_true_iff] at h
  have e1:(⟨#[c]⟩:Str).length=1:=rfl
  rcases h with h | h
  ·obtain ⟨i,hi⟩:=List.getElem?_of_mem hm
   have:=(Ze_.mp hi).1
   have e2:x.cps.toList.length=x.length:=by simp [Str.length]
   omega
  ·omega
 ·split at hp
  ·rename_i h
   rw [Θs hp]
   exact none h
  ·obtain ⟨f,hch⟩:=occ_chain x ⟨#[c]⟩ (x.length + 1)
   rw [partsBetween_eq] at hp
   refine Fz (a:=0) hch (fun i _ h3=>?_) p hp
   rw [Qy]
   refine List.mem_filter.mpr ⟨?_,Zr_ h3⟩
   have:=(Ze_.mp h3).1
   have e2:x.cps.toList.length=x.length:=by simp [Str.length]
   simp
   omega
theorem Aac:Txt.split x ⟨#[c]⟩≠[]:=by
 unfold Txt.split
 split
 ·exact List.cons_ne_nil _ _
 ·split
  ·exact List.cons_ne_nil _ _
  ·rw [partsBetween_eq]
   obtain ⟨p,r,e⟩:=StrLaws.partsFrom_ne x (⟨#[c]⟩:Str).length 0 (occurrences x ⟨#[c]⟩ 0 x.length (x.length + 1))
   rw [e]
   exact List.cons_ne_nil _ _
theorem Ds:∀{p q A B:List Nat},p++c :: A=q++c :: B->c∉p->c∉q->p=q/\A=B
 | [],[],_,_,e,_,_=>⟨rfl,(List.cons.inj e).2⟩
 | [],b :: q,_,_,e,_,hq=>absurd (by rw [(List.cons.inj e).1]; exact Θc ..) hq
 | a :: p,[],_,_,e,hp,_=>absurd (by rw [<-(List.cons.inj e).1]; exact Θc ..) hp
 | a :: p,b :: q,A,B,e,hp,hq=>by
  obtain ⟨e1,e2⟩:=List.cons.inj e
  obtain ⟨h1,h2⟩:=Ds e2 (fun z=>hp (Θd _ z)) fun z=>hq (Θd _ z)
  exact ⟨by rw [e1,h1],h2⟩
theorem Lv:∀{ps qs:List Str},ps≠[]->qs≠[]->(∀p∈ps,c∉p.cps.toList)->(∀p∈qs,c∉p.cps.toList)->Str.join ⟨#[c]⟩ ps=Str.join ⟨#[c]⟩ qs->ps=qs
 | [],_,h,_,_,_,_=>absurd rfl h
 | _,[],_,h,_,_,_=>absurd rfl h
 | [p],[q],_,_,_,_,e=>by
  have e:p=q:=e
  rw [e]
 | [p],q :: q2 :: r,_,_,hp,_,e=>by
  have e:p=q++⟨#[c]⟩++Str.join ⟨#[c]⟩ (q2 :: r):=e
  refine absurd ?_ (hp p (List.mem_singleton.mpr rfl))
  rw [e]
  simp [Str.cps_append]
 | p :: p2 :: r,[q],_,_,_,hq,e=>by
  have e:p++⟨#[c]⟩++Str.join ⟨#[c]⟩ (p2 :: r)=q:=e
  refine absurd ?_ (hq q (List.mem_singleton.mpr rfl))
  rw [<-e]
  simp [Str.cps_append]
 | p :: p2 :: r,q :: q2 :: t,_,_,hp,hq,e=>by
  have e:p++⟨#[c]⟩++Str.join ⟨#[c]⟩ (p2 :: r)=q++⟨#[c]⟩++Str.join ⟨#[c]⟩ (q2 :: t):=e
  have e2:=congrArg (fun s:Str=>s.cps.toList) e
  simp only [Str.cps_append,Array.toList_append,List.append_assoc] at e2
  obtain ⟨h1,h2⟩:=Ds (c:=c) (p:=p.cps.toList) (q:=q.cps.toList) e2 (hp p (Θc ..)) (hq q (Θc ..))
  have ep:p=q:=Str.ext' (Array.toList_inj.mp h1)
  have er:=Lv (List.cons_ne_nil _ _) (List.cons_ne_nil _ _) (fun x hx=>hp x (Θd _ hx)) (fun x hx=>hq x (Θd _ hx)) (Str.ext' (Array.toList_inj.mp h2))
  rw [ep,er]
theorem P8 {ps:List Str} (hc:c < 256) (h0:ps≠[]) (h:∀p∈ps,c∉p.cps.toList):Txt.split (Str.join ⟨#[c]⟩ ps) ⟨#[c]⟩=ps:=
 Lv Aac h0 (Pw hc) h (join_split _ _)
theorem N1 (sep:Str) (ys:List Str):Txt.join sep ys=Str.join sep ys:=StrLaws.glued_eq_join sep ys
end
end L2
namespace L2
open PySem PySem.Spec PyProof.Rows
section
variable {X:Cx} {body hb:List Stmt} {b₀:Stmt} {tb:(St->Hp->Prop)->(St->XK)->St->Hp->Prop} {th:TS} {cx:Str} {c:Value} {cp hp pos:Pos}
noncomputable def Ae9 (K:Θf) (c:Value) (tb:(St->Hp->Prop)->(St->XK)->St->Hp->Prop) (th:TS):TS:=fun D σ H=>
 tb D.nx (fun σ' cls _ H2=>∃C,cls = .ref C/\PySem.W.exmOne K (.ref C) c=some true/\∀ea,H2 ea=none->th { nx:=D.nx,rt:=fun _ _=>False } σ' (upd H2 ea (Adm ea C))) σ H
theorem Mq (hb':Ac7 X body tb) (hh:∀ea,PSs (X.within ea) (b₀ :: hb) th) (hg:Gl X cx) (hm:X.mg cx=some c) (hst:X.stack=X.env :: X.outer) (hfr:X.env.frame=some X.env.locals) (hdb:(cx == ("__debug__":Str))=false:=by decide) :
  PS X (.Try body [.ExceptHandler (some (.Name cx cp)) none (b₀ :: hb) hp] [] [] pos) (Ae9 X.K c tb th):=by
 intro pins s σ H D I h
 refine wpAny_Try_except (wpAny_mono (hb' pins s σ H _ _ I h) (fun f s1 q=>?_) fun e s1 q=>?_)
 ·obtain ⟨rfl,σ',H',I',q⟩:=q
  exact wpAny_execs_nil ⟨σ',H',I',q⟩
 ·obtain ⟨σ',H1,s2,I1,ea,C,B,H',rfl,F,C',ec,hex,q⟩:=q
  obtain rfl:C=C':=by injection ec
  obtain ⟨a0,fl⟩:=F.fly
  have hframes:X.A.frames=some (X.env :: X.outer):=by rw [<-hst]; exact I1.ok.frames
  have fl':=fl
  rw [hst] at fl'
  refine wpAny_looks_onW hframes hfr fl' fun h4 held sm4=>?_
  refine wpAny_landsW held fun h5 fl5 sm5=>?_
  rw [<-hst] at fl5
  have J5:=F.landed I1 fl5 (sm4.trans sm5)
  refine wpAny_handleBy_cons (codeAny_handlers_test ?_) (by intro q; cases q)
  refine Calls.Name_function_global J5.ok.kind hg (Calls.loadGlobal_global (by rw [J5.ok.glob]; exact J5.mod.glob.keeps J5.bk) hm ?_) hdb
  obtain ⟨ob,hob,hobc⟩:=fl5.there
  have LT:PySem.W.Looks (model X.prog X.w) h5 (typeOf (.ref ea)) (.ref C):=hobc ▸ (PySem.W.Looks.ld hob).andThen .now
  refine (PySem.W.exm_one J5.kIn LT hex).here ?_
  refine codeAny_handlers_suite ?_
  refine lands_againW fl5 fun h6 fl6 sm6=>?_
  have J6:=F.landed I1 fl6 ((sm4.trans sm5).trans sm6)
  refine wpAny_mono (hh ea pins _ σ' _ { nx:=D.nx,rt:=fun _ _=>False } (J6.inS ea) (q ea F.fresh)) (fun f s8 q8=>?_) fun _ _ z=>z.elim
  cases f with
  | next=>
   obtain ⟨σ2,H2,J8,q9⟩:=q8
   exact ⟨σ2,H2,J8.outS I.ok.hd,q9⟩
  | ret v=>obtain ⟨_,_,_,_,_,z⟩:=q8; exact z.elim
  | brk=>obtain ⟨_,_,_,z⟩:=q8; exact z.elim
  | cont=>obtain ⟨_,_,_,z⟩:=q8; exact z.elim
end
noncomputable def noS:Str:=⟨#[]⟩
structure NM (nms:List Str):Prop where
 l1:1<=nms.length
 l7:nms.length<=7
 nd:nms.Nodup
 ne:∀n∈nms,n.cps.toList≠[]
 low:∀n∈nms,∀c∈n.cps.toList,97<=c/\c<=122
 len:∀n∈nms,n.length<=8
noncomputable def D8 (nms:List Str) (s:Nat):List Str:=(D4 s).map fun c=>nms.getD c noS
noncomputable def commaS:Str:=⟨#[44]⟩
noncomputable def Dt:Str:=⟨#[45]⟩
noncomputable def D3 (nms:List Str) (s:Nat):Str:=if s=0 then Dt else Str.join commaS (D8 nms s)
theorem Aay:∀s,s < 128->(D4 s).Pairwise (· < ·):=by decide +kernel
theorem Aax:∀k,k < 7->∀a,a < 2 ^ k->D4 (a|||2 ^ k)=D4 a++[k]:=by decide +kernel
section
variable {nms:List Str} {s:Nat}
theorem V2 (N:NM nms) (hs:s < 2 ^ nms.length) {c:Nat} (h:c∈D4 s):c < nms.length:=by
 have:=W4 N.l7
 exact V3 hs ((O3 (by omega) c).mp h)
theorem S0 (N:NM nms) (hs:s < 2 ^ nms.length):s < 128:=by
 have:=W4 N.l7
 omega
theorem Be (h:s < nms.length):nms.getD s noS∈nms/\nms[s]? = some (nms.getD s noS):=by
 rw [Zu_,Θh h]
 exact ⟨List.getElem_mem h,rfl⟩
theorem Op (N:NM nms) {a b:Nat} (ha:a < nms.length) (hb:b < nms.length) (e:nms.getD a noS=nms.getD b noS):a=b:=by
 have h1:=(Be ha).2
 have h2:=(Be hb).2
 rw [e,<-h2] at h1
 exact (List.getElem?_inj ha N.nd).mp h1
theorem V5 (N:NM nms) (hs:s < 2 ^ nms.length) {w:Str} (h:w∈D8 nms s):w∈nms:=by
 obtain ⟨c,hc,rfl⟩:=Θn h
 exact (Be (V2 N hs hc)).1
theorem Af2 (hs:s < 128) (h:s≠0):D8 nms s≠[]:=by
 obtain ⟨k,hk⟩:=Y1 h
 intro z
 have:k∈D4 s:=(O3 hs k).mpr hk
 unfold D8 at z
 rw [List.map_eq_nil_iff] at z
 rw [z] at this
 exact absurd this Zi_
theorem Abc (N:NM nms) (hs:s < 2 ^ nms.length) {a i:Nat} {ws:List Str} {w:Str} (ha:a < 2 ^ nms.length) (e:ws=D8 nms s) (et:ws.take i=D8 nms a) (ew:ws[i]? = some w):∃k,k < nms.length/\w=nms.getD k noS/\a < 2 ^ k:=by
 rw [e] at ew et
 unfold D8 at ew et
 rw [Θg] at ew
 cases ek:(D4 s)[i]? with
 | none=>rw [ek] at ew; cases ew
 | some k=>
  rw [ek] at ew
  have hk:=V2 N hs (Θe ek)
  refine ⟨k,hk,(Θo ew).symm,?_⟩
  refine Nat.lt_pow_two_of_testBit _ fun j hj=>?_
  cases tj:a.testBit j with
  | false=>rfl
  | true=>
   exfalso
   have hja:j∈D4 a:=(O3 (S0 N ha) j).mpr tj
   have hjl:=V2 N ha hja
   have:nms.getD j noS∈((D4 s).map fun c=>nms.getD c noS).take i:=by rw [et]; exact Θm ⟨j,hja,rfl⟩
   rw [<-List.map_take] at this
   obtain ⟨j',hj',e'⟩:=Θn this
   have hj'l:=V2 N hs (List.mem_of_mem_take hj')
   obtain rfl:=Op N hj'l hjl e'
   obtain ⟨q,hq⟩:=List.getElem?_of_mem hj'
   rw [List.getElem?_take] at hq
   split at hq
   ·rename_i hqi
    have pw:=Aay s (S0 N hs)
    rw [List.pairwise_iff_getElem] at pw
    obtain ⟨l1,e1⟩:=Ze_.mp hq
    obtain ⟨l2,e2⟩:=Ze_.mp ek
    have:=pw q i l1 l2 hqi
    rw [e1,e2] at this
    omega
   ·cases hq
theorem Af3 (N:NM nms) {a k:Nat} (hk:k < nms.length) (ha:a < 2 ^ k):D8 nms (a|||2 ^ k)=D8 nms a++[nms.getD k noS]:=by
 unfold D8
 rw [Aax k (by have:=N.l7; omega) a ha,Zw_]
 rfl
theorem Oa (N:NM nms) {a b:Nat} (ha:a < 2 ^ nms.length) (hb:b < 2 ^ nms.length) (e:D8 nms a=D8 nms b):a=b:=by
 have half:∀{a b:Nat},a < 2 ^ nms.length->b < 2 ^ nms.length->D8 nms a=D8 nms b->∀c,D5 a c->D5 b c:=fun {a b} ha hb e c hc=>by
  have h1:c∈D4 a:=(O3 (S0 N ha) c).mpr hc
  have:nms.getD c noS∈D8 nms b:=by rw [<-e]; exact Θm ⟨c,h1,rfl⟩
  obtain ⟨c',h2,e2⟩:=Θn this
  obtain rfl:=Op N (V2 N hb h2) (V2 N ha h1) e2
  exact (O3 (S0 N hb) _).mp h2
 exact Qi fun c=>⟨half ha hb e c,half hb ha e.symm c⟩
noncomputable def okC (c:Nat):Prop:=c=44\/97<=c/\c<=122
theorem Fr:∀{ps:List Str},(∀p∈ps,∀c∈p.cps.toList,okC c)->∀c∈(Str.join commaS ps).cps.toList,okC c
 | [],_,c,hc=>by cases hc
 | [p],h,c,hc=>h p (List.mem_singleton.mpr rfl) c hc
 | p :: q :: r,h,c,hc=>by
  have e:Str.join commaS (p :: q :: r)=p++commaS++Str.join commaS (q :: r):=rfl
  rw [e,Str.cps_append,Str.cps_append,Array.toList_append,Array.toList_append] at hc
  rcases Θa hc with hc | hc
  ·rcases Θa hc with hc | hc
   ·exact h p (Θc ..) c hc
   ·exact .inl (Θs hc)
  ·exact Fr (fun x hx=>h x (Θd _ hx)) c hc
theorem Adw (N:NM nms) {n:Str} (h:n∈nms):∀c∈n.cps.toList,okC c:=fun c hc=>.inr (N.low n h c hc)
theorem Abd (N:NM nms) {n:Str} (h:n∈nms):44∉n.cps.toList:=fun z=>by
 have:=N.low n h 44 z
 omega
theorem Nm (N:NM nms) (hs:s < 2 ^ nms.length) {t:Str} (e:Txt.split t commaS=D8 nms s):∀c∈t.cps.toList,okC c:=by
 have h1:Str.join commaS (Txt.split t commaS)=t:=StrLaws.join_split t commaS
 rw [e] at h1
 rw [<-h1]
 exact Fr fun p hp=>Adw N (V5 N hs hp)
theorem Aq (N:NM nms) (hs:s < 2 ^ nms.length) (h0:s≠0):Txt.split (Str.join commaS (D8 nms s)) commaS=D8 nms s:=
 P8 (c:=44) (by decide) (Af2 (S0 N hs) h0) fun p hp=>Abd N (V5 N hs hp)
noncomputable def Vg (nms:List Str) (t:Str):Prop:=t≠Dt/\∀s,s < 2 ^ nms.length->Txt.split t commaS≠D8 nms s
end
section
variable {X:Cx}
end
section
variable {X:Cx} {K:Θf} {pins:List (Addr × Obj)} {σ:St} {H:Hp} {s:Shared}
end
noncomputable def Fh (ns:List Int) (k:Nat):Nat:=(ns.getD k 0 % 2147483629).toNat
noncomputable def Bb (ns:List Int) (k:Nat):Nat:=if k < ns.length then Fh ns k else if 0 < ns.length then ((k * k * 48271 + 11 + Fh ns (k % ns.length) * 69621) * (k * k * 48271 + 11 + Fh ns (k % ns.length) * 69621)) % 2147483629 else ((k * k * 48271 + 11) * (k * k * 48271 + 11)) % 2147483629
theorem Lj {ns:List Int} {k c:Nat} (hk:k < ns.length) (e:ns[k] % 2147483629=(c:Int)):Fh ns k=c:=by
 unfold Fh
 rw [Zu_,Θh hk]
 show (ns[k] % 2147483629).toNat=c
 rw [e,Int.toNat_natCast]
theorem Vp (ns:List Int) (k:Nat):Bb ns k < 2147483629:=by
 unfold Bb
 split
 ·unfold Fh
  have h1:=Int.emod_lt_of_pos (ns.getD k 0) (show (0:Int) < 2147483629 by decide)
  have h2:=Int.emod_nonneg (ns.getD k 0) (show (2147483629:Int)≠0 by decide)
  omega
 ·split
  ·exact Nat.mod_lt _ (by decide)
  ·exact Nat.mod_lt _ (by decide)
noncomputable def Rq (K:Θf):Sp:=fun vs H Q _=>∃(sc:Addr) (ns:List Int) (k:Nat),vs=[.ref sc,vN k]/\SqL K H sc (ns.map V.int)/\k<=1000/\Q (vN (Bb ns k)) H
theorem Sy {K:Θf} (vs:List V) (H:Hp) (Q:VK) (E:XK) (h:Bz K vs H Q E):Rq K vs H Q E:=by
 obtain ⟨sc,ns,k,e,hS,hk,q⟩:=h
 exact ⟨sc,ns,k,e,hS,hk,q _ (Vp ns k)⟩
section
variable {X:Cx} {body hb:List Stmt} {b₀:Stmt} {tb:(St->Hp->Prop)->(St->XK)->St->Hp->Prop} {th:TS} {cx n:Str} {c:Value} {cp hp pos:Pos} {l:Nat}
end
theorem Qu {sep:Str} {ys:List Str} (h:(ys.map (·.length)).sum + ys.length * sep.length<=1000):JoinOk sep ys=true:=by
 unfold JoinOk
 rw [Bool.not_eq_true']
 show decide (_ > sizeLine)=false
 rw [StrLaws.joinTotal,decide_eq_false]
 have:=sizeLine_eq
 omega
theorem Dl {ys:List Str} {d:Nat} (h:∀y∈ys,y.length<=d):(ys.map (·.length)).sum<=ys.length * d:=by
 induction ys with
 | nil=>simp
 | cons y ys ih=>
  rw [List.map_cons,List.sum_cons,ZA,Nat.succ_mul]
  have h1:=h y (Θc ..)
  have h2:=ih fun z hz=>h z (Θd _ hz)
  omega
theorem Dw:∀ps:List Str,ps.length<=(Str.join commaS ps).length + 1
 | []=>by simp
 | [p]=>by simp
 | p :: q :: r=>by
  have e:Str.join commaS (p :: q :: r)=p++commaS++Str.join commaS (q :: r):=rfl
  have h:=Dw (q :: r)
  rw [e,Str.length_append,Str.length_append]
  have:commaS.length=1:=rfl
  simp only [List.length_cons] at h ⊢
  omega
theorem Uw (t:Str):(Txt.split t commaS).length<=t.length + 1:=by
 have h1:Str.join commaS (Txt.split t commaS)=t:=StrLaws.join_split t commaS
 have:=Dw (Txt.split t commaS)
 rw [h1] at this
 exact this
section
variable {nms:List Str} {s:Nat}
theorem P2 (N:NM nms) (hs:s < 2 ^ nms.length):(D8 nms s).length<=7:=by
 unfold D8
 rw [Θl]
 have:∀s,s < 128->(D4 s).length<=7:=by decide +kernel
 exact this s (S0 N hs)
theorem Xj (N:NM nms) (hs:s < 2 ^ nms.length):JoinOk commaS (D8 nms s)=true:=by
 have h1:=P2 N hs
 have h2:=Dl (d:=8) fun y hy=>N.len y (V5 N hs hy)
 refine Qu ?_
 have e:commaS.length=1:=rfl
 rw [e]
 omega
theorem F0 (N:NM nms) (hs:s < 2 ^ nms.length):(D3 nms s).length<=70:=by
 unfold D3
 split
 ·decide
 ·have h1:=P2 N hs
  have h2:=Dl (d:=8) fun y hy=>N.len y (V5 N hs hy)
  have h3:=StrLaws.join_length_le commaS (D8 nms s)
  have e:commaS.length=1:=rfl
  rw [e] at h3
  omega
theorem Wr:∀n,n < 8->∀s,s < 2 ^ n->(List.range n).filter (Jn s)=D4 s:=by decide +kernel
end
noncomputable def NAt (K:Θf) (H:Hp) (np:Addr) (nms:List Str):Prop:=SqL K H np (nms.map V.str)
noncomputable def Au (K:Θf):Sp:=fun vs H Q _=>∃(np wp:Addr) (nms ws:List Str),vs=[.ref np,.ref wp]/\NAt K H np nms/\NM nms/\SqL K H wp (ws.map V.str)/\ws.length<=1000/\
 (∀s,s < 2 ^ nms.length->ws=D8 nms s->Q (vN s) H)/\((∀s,s < 2 ^ nms.length->ws≠D8 nms s)->Q .non H)
noncomputable def R4 (K:Θf):Sp:=fun vs H Q _=>∃(np:Addr) (nms:List Str) (s:Nat),vs=[.ref np,vN s]/\NAt K H np nms/\NM nms/\s < 2 ^ nms.length/\∀(l:Addr) (H':Hp),Same H H'->H l=none->H' l=some (.lst ((D8 nms s).map V.str))->Q (.ref l) H'
noncomputable def T0 (K:Θf):Sp:=fun vs H Q _=>∃(np:Addr) (nms:List Str) (s:Nat),vs=[.ref np,vN s]/\NAt K H np nms/\NM nms/\s < 2 ^ nms.length/\∀H',Same H H'->Q (.str (D3 nms s)) H'
noncomputable def Z1 (K:Θf) (CT:Addr):Sp:=fun vs H Q E=>∃(np:Addr) (nms:List Str) (t:Str),vs=[.ref np,.str t]/\NAt K H np nms/\NM nms/\t.length<=300/\(∀c∈t.cps.toList,c < 256)/\
 (t=Dt->Q (vN 0) H)/\(∀s H',Same H H'->t≠Dt->s < 2 ^ nms.length->Txt.split t commaS=D8 nms s->Q (vN s) H')/\(Vg nms t->∀H',Same H H'->E (.ref CT) none H')
theorem Fq (l:List Str):(l.map V.str).all Bd=true:=by
 rw [List.all_map,List.all_eq_true]
 exact fun _ _=>rfl
theorem El {x:Str} {l:List Str}:inV (.str x) (l.map V.str)=decide (x∈l):=by
 unfold inV
 rw [List.any_map,Bool.eq_iff_iff,List.any_eq_true,decide_eq_true_iff]
 constructor
 ·rintro ⟨y,hy,e⟩
  have e:(y == x)=true:=e
  rw [<-eq_of_beq e]
  exact hy
 ·intro h
  exact ⟨x,h,beq_self_eq_true x⟩
section
variable {X:Cx} {K:Θf}
theorem Ig (hK:X.K=K):MtR X "list.index" (fun x vs H Q=>∃(p:Addr) (l:List Str) (k:Nat),x = .ref p/\SqL K H p (l.map V.str)/\l.length<=1000/\l.Nodup/\k < l.length/\vs=[.str (l.getD k noS)]/\Q (vN k) H):=by
 subst hK
 intro pins s σ H x vs v us Q I rx rv h
 obtain ⟨p,l,k,rfl,hq,hl,nd,hk,rfl,q⟩:=h
 cases rx
 obtain ⟨u,rfl,ru⟩:=Vals.one rv
 obtain ⟨its,r,pl,hz⟩:=I.list hq
 obtain ⟨⟨c,d,dt,sl⟩,n,e,h1,h2,h3⟩:=pl
 obtain rfl:c=_:=h1
 obtain rfl:d=_:=h2
 obtain rfl:dt=_:=h3
 have len:its.length=l.length:=by rw [<-r.length,Θl]
 have at_:∀j (hj:j < its.toArray.size),eqU (.str (l.getD k noS)) its.toArray[j]=decide (l.getD j noS=l.getD k noS):=fun j hj=>by
  have hj':j < l.length:=by rw [<-len]; simpa using hj
  obtain ⟨w,hw,rw'⟩:=r.get (i:=j) (x:=V.str l[j]) (by rw [Θg,Θh hj']; rfl)
  have:its.toArray[j]=w:=by
   rw [Θh (by simpa using hj)] at hw
   simpa using hw
  have ej:l.getD j noS=l[j]:=by rw [Zu_,Θh hj']; rfl
  rw [this,Nx rw' rfl,ej]
  show (l[j] == l.getD k noS)=decide (l[j]=l.getD k noS)
  rw [Bool.eq_iff_iff,beq_iff_eq,decide_eq_true_iff]
 refine call_meets F.slot_list_index ⟨_,e,rfl⟩ F.entry_list_index (F.args_list_index_2 _ _) (SeqAt.list_indexAt p its.toArray n none sl u (eqU (.str (l.getD k noS))) k (by rw [Zx_,len]; exact hk) (by omega) ?_ fun m hm hlt=>?_)
  ⟨e,fun y hy=>U5 ru rfl r (Fq l) y (by simpa using hy),⟨vN k,H,I.tok _,⟨_,rfl⟩,q⟩⟩
 ·rw [at_,decide_eq_true_iff]
 ·rw [at_,decide_eq_false_iff_not]
  intro z
  have hm':m < l.length:=by rw [<-len]; simpa using hm
  have e1:l.getD m noS=l[m]:=by rw [Zu_,Θh hm']; rfl
  have e2:l.getD k noS=l[k]:=by rw [Zu_,Θh hk]; rfl
  have h1:l[m]? = l[k]?:=by rw [Θh hm',Θh hk,<-e1,<-e2,z]
  have:=(List.getElem?_inj hm' nd).mp h1
  omega
end
noncomputable def sng (c:Nat):Str:=⟨#[c]⟩
noncomputable def letS:Str:="abcdefghijklmnopqrstuvwxyz"
theorem Oh:∀i,i < 26->letS.cps.toList[i]? = some (97 + i):=by decide +kernel
theorem Fs:∀l:List Nat,Str.join noS (l.map sng)=⟨l.toArray⟩
 | []=>rfl
 | [c]=>rfl
 | c :: d :: r=>by
  have h:=Fs (d :: r)
  have e:Str.join noS ((c :: d :: r).map sng)=sng c++noS++Str.join noS ((d :: r).map sng):=rfl
  rw [e,h]
  apply congrArg Str.mk
  show (#[c]++#[])++(d :: r).toArray=(c :: d :: r).toArray
  simp
theorem Zr (l:List Nat) (h:l.length<=100):JoinOk noS (l.map sng)=true:=by
 refine Qu ?_
 have h2:=Dl (d:=1) (ys:=l.map sng) fun y hy=>by
  obtain ⟨c,_,rfl⟩:=Θn hy
  exact Zd_ _
 have e:noS.length=0:=rfl
 rw [Θl] at h2 ⊢
 rw [e]
 omega
noncomputable def Vq (l:List Str):Bool:=decide (1<=l.length) && decide (l.length<=7) && decide l.Nodup && l.all fun n=>!n.cps.toList.isEmpty && n.cps.toList.all (fun c=>decide (97<=c) && decide (c<=122)) && decide (n.length<=8)
theorem Adc {l:List Str} (h:Vq l=true):NM l:=by
 unfold Vq at h
 simp only [Bool.and_eq_true,decide_eq_true_iff,List.all_eq_true,Bool.not_eq_true',List.isEmpty_eq_false_iff] at h
 obtain ⟨⟨⟨h1,h2⟩,h3⟩,h4⟩:=h
 exact ⟨h1,h2,h3,fun n hn=>(h4 n hn).1.1,fun n hn c hc=>(h4 n hn).1.2 c hc,fun n hn=>(h4 n hn).2⟩
noncomputable def Bk (r:Nat):List Nat:=(List.range 8).map fun j=>97 + (r + 3 * j) % 26
noncomputable def Tt (r:Nat):Str:=⟨(Bk r).toArray⟩
noncomputable def He (r n:Nat):List Str:=(List.range n).map fun k=>Txt.slice (Tt r) (some ((k % 5:Nat):Int)) (some ((k % 5 + 1 + k / 5:Nat):Int))
theorem Ady:∀r,r < 26->∀n,n < 8->1<=n->Vq (He r n)=true:=by decide +kernel
noncomputable def evB (c size:Nat):List Nat:=(List.range size).map fun j=>97 + (c / (j + 1) + j * j) % 26
noncomputable def evL (c size at_ k:Nat):List Nat:=(evB c size).set at_ (97 + (c / 96 + k) % 26)
noncomputable def evS (c size at_ k:Nat):Str:=⟨(evL c size at_ k).toArray⟩
noncomputable def evN (c size at_ n:Nat):List Str:=(List.range n).map (evS c size at_)
theorem Jl (c size at_ k:Nat):(evL c size at_ k).length=size:=by unfold evL evB; rw [List.length_set,Θl,List.length_range]
theorem Aft {c size at_ n:Nat} (h:at_ < size) (hs:size<=8) (h1:1<=n) (h7:n<=7):NM (evN c size at_ n):=by
 have ln:(evN c size at_ n).length=n:=by unfold evN; rw [Θl,List.length_range]
 have low:∀k,∀x∈evL c size at_ k,97<=x/\x<=122:=fun k x hx=>by
  unfold evL at hx
  rcases List.mem_or_eq_of_mem_set hx with hx | rfl
  ·obtain ⟨j,_,rfl⟩:=Θn hx
   omega
  ·omega
 have mem:∀x∈evN c size at_ n,∃k,x=evS c size at_ k:=fun x hx=>by
  obtain ⟨k,_,rfl⟩:=Θn hx
  exact ⟨k,rfl⟩
 have tl:∀k,(evS c size at_ k).cps.toList=evL c size at_ k:=fun k=>List.toList_toArray ..
 refine ⟨by omega,by omega,?_,fun x hx=>?_,fun x hx=>?_,fun x hx=>?_⟩
 ·unfold evN
  refine List.pairwise_map.mpr (List.Pairwise.imp_of_mem (fun {a b} ha hb (hab:a < b) e=>?_) (List.pairwise_lt_range))
  have ha:=List.mem_range.mp ha
  have hb:=List.mem_range.mp hb
  have e2:evL c size at_ a=evL c size at_ b:=by rw [<-tl,<-tl,e]
  have g:∀k,(evL c size at_ k)[at_]? = some (97 + (c / 96 + k) % 26):=fun k=>by
   unfold evL
   rw [List.getElem?_set_self (by unfold evB; rw [Θl,List.length_range]; exact h)]
  have e3:=g a
  rw [e2,g b] at e3
  have:=Θo e3
  omega
 ·obtain ⟨k,rfl⟩:=mem x hx
  rw [tl]
  intro z
  have:=Jl c size at_ k
  rw [z] at this
  simp at this
  omega
 ·obtain ⟨k,rfl⟩:=mem x hx
  rw [tl]
  exact low k
 ·obtain ⟨k,rfl⟩:=mem x hx
  show (evL c size at_ k).toArray.size<=8
  rw [Zx_,Jl]
  exact hs
section
variable {nms:List Str} {s:Nat}
theorem Cw (N:NM nms) (hs:s < 2 ^ nms.length):∀p∈D8 nms s,∀c∈p.cps.toList,97<=c/\c<=122:=fun p hp=>N.low p (V5 N hs hp)
end
theorem Rn (a b:Str):same (PyData.str a) (PyData.str b)=decide (a=b):=by
 simp only [same]
 rw [Bool.eq_iff_iff]; simp
theorem Mg (a b:Str):SeqAt.noMix (PyData.str a) (PyData.str b)=true:=by simp [SeqAt.noMix]
theorem Sx {a:Str} (h:∀c∈a.cps.toList,c < 256):PyData.canLay0 (PyData.str a)=true:=by
 simp only [PyData.canLay0]
 unfold PyData.strOk
 rw [<-Array.all_toList,List.all_eq_true]
 intro c hc
 have:=h c hc
 exact Zr_ (by omega)
theorem Dr:∀ws:List Str,(∀w∈ws,∀c∈w.cps.toList,c < 256)->PyData.canLayAll0 (ws.map PyData.str)=true
 | [],_=>by simp [PyData.canLayAll0]
 | x :: xs,h=>by
  have h1:=Sx (h x (Θc ..))
  have h2:=Dr xs fun w hw=>h w (Θd _ hw)
  simp only [List.map_cons,PyData.canLayAll0]
  rw [h1,h2]; rfl
theorem Vv (a:Str):PyData.depth (PyData.str a)<=10:=by simp [PyData.depth]
theorem S9 {ws:List Str} (h:∀w∈ws,∀c∈w.cps.toList,c < 256):SeqAt.shaped (.list (ws.map PyData.str))=true:=by
 have h2:PyData.depth (.list (ws.map PyData.str))<=64:=by
  have:=Bc Vv ws
  simp only [PyData.depth]
  omega
 show (PyData.canLay0 (.list (ws.map PyData.str)) && decide (PyData.depth (.list (ws.map PyData.str))<=64))=true
 rw [Bool.and_eq_true]
 exact ⟨by simp only [PyData.canLay0]; exact Dr ws h,decide_eq_true h2⟩
theorem Ky {K:Θf} {H:Hp}:∀ws:List Str,DVs K H (ws.map V.str) (ws.map PyData.str)
 | []=>.nil
 | w :: ws=>.cons (.str _) (Ky ws)
section
variable {nms:List Str} {s:Nat}
end
theorem Same.over {H H':Hp} {p:Addr} {o:HO} (s:Same H H') (h:H p=Option.none):Same H (upd H' p o):=fun a x hx=>by
 rw [C6 (fun z=>by rw [z,h] at hx; cases hx)]
 exact s a x hx
theorem Aa7 {n j:Nat} (h:j < n):ixN n (j:Int)=some j:=by
 unfold ixN
 rw [if_pos (by omega),if_pos (by omega)]; simp
theorem Fu:letS.length<=sizeLine:=by rw [sizeLine_eq]; decide
theorem rg2 {n i:Nat} (h:i < n):(List.range n)[i]? = some i:=by rw [Θh (by rw [List.length_range]; exact h),List.getElem_range]
theorem Abe {r i:Nat} (h:i < 8):(Bk r)[i]? = some (97 + (r + 3 * i) % 26):=by
 unfold Bk
 rw [Θg,rg2 h]; rfl
theorem Adl {c size i:Nat} (h:i < size):(evB c size)[i]? = some (97 + (c / (i + 1) + i * i) % 26):=by
 unfold evB
 rw [Θg,rg2 h]; rfl
theorem Ts (r i:Nat):He r (i + 1)=He r i++[Txt.slice (Tt r) (some ((i % 5:Nat):Int)) (some ((i % 5 + 1 + i / 5:Nat):Int))]:=by
 unfold He
 rw [List.range_succ,Zw_]; rfl
theorem Wc (c size at_ i:Nat):evN c size at_ (i + 1)=evN c size at_ i++[evS c size at_ i]:=by
 unfold evN
 rw [List.range_succ,Zw_]; rfl
end L2
namespace L2
open PySem PySem.W PyProof.Rows
namespace ST
section
variable {lt:Nat->Nat->Bool}
section
variable {N:Nat} (h0:0 < N)
include h0
end
end
end ST
end L2
namespace L2
open PySem PySem.W PyProof.Rows
namespace ST
section
variable {prog:Program} {w:World} {A:Around} {E:Value->Shared->Prop} {s:Shared}
end
end ST
end L2
namespace L2
open PySem PySem.W PyProof.Rows
namespace SR
structure TO (L:Keyed->Keyed->Bool):Prop where
 as_:∀{x y},L x y=true->L y x=false
 tr:∀{x y z},L y x=false->L z y=false->L z x=false
section
variable {prog:Program} {w:World} {A:Around} {E:Value->Shared->Prop} {s:Shared} {κ:SortKind} {U:Keyed->Prop} {L:Keyed->Keyed->Bool}
end
end SR
end L2
namespace L2
open PySem PySem.W PyProof.Rows
namespace SR
section
variable {L:Keyed->Keyed->Bool} {la lb out ro:List Keyed} {ia ib na nb k:Nat}
noncomputable abbrev Le (L:Keyed->Keyed->Bool) (x y:Keyed):Prop:=L y x=false
noncomputable abbrev Inc (L:Keyed->Keyed->Bool) (l:List Keyed):Prop:=l.Pairwise (Le L)
theorem Le.trans (O:TO L) {x y z:Keyed} (h:Le L x y) (g:Le L y z):Le L x z:=O.tr h g
theorem Inc.le (S:Inc L la) {i j:Nat} {x y:Keyed} (hi:la[i]? = some x) (hj:la[j]? = some y) (h:i < j):Le L x y:=by
 obtain ⟨h1,e1⟩:=Ze_.mp hi
 obtain ⟨h2,e2⟩:=Ze_.mp hj
 have:=List.pairwise_iff_getElem.mp S i j h1 h2 h
 rw [e1,e2] at this
 exact this
theorem irr (O:TO L) (x:Keyed):Le L x x:=by
 show L x x=false
 cases c:L x x with
 | false=>rfl
 | true=>have:=O.as_ c; rw [c] at this; exact this
theorem Inc.le' (O:TO L) (S:Inc L la) {i j:Nat} {x y:Keyed} (hi:la[i]? = some x) (hj:la[j]? = some y) (h:i<=j):Le L x y:=by
 rcases Nat.lt_or_ge i j with c | c
 ·exact S.le hi hj c
 ·have:i=j:=by omega
  subst this
  rw [hi] at hj
  cases hj
  exact irr O x
theorem Lz {l:List Keyed} {i:Nat} {y:Keyed} (h:y∈l.drop i):∃j,i<=j/\l[j]? = some y:=by
 obtain ⟨j,hj⟩:=List.mem_iff_getElem?.mp h
 rw [List.getElem?_drop] at hj
 exact ⟨i + j,by omega,hj⟩
theorem Mb {l:List Keyed} {n:Nat} {y:Keyed} (h:y∈l.take n):∃j,j < n/\l[j]? = some y:=by
 obtain ⟨j,hj⟩:=List.mem_iff_getElem?.mp h
 rw [List.getElem?_take] at hj
 split at hj
 ·exact ⟨j,by assumption,hj⟩
 ·cases hj
structure LI (L:Keyed->Keyed->Bool) (la lb out:List Keyed) (ia ib:Nat):Prop where
 perm:out.Perm (la.take ia++lb.take ib)
 srt:Inc L out
 ha:∀x∈out,∀y∈la.drop ia,Le L x y
 hb:∀x∈out,∀y∈lb.drop ib,Le L x y
theorem LI.swap (I:LI L la lb out ia ib):LI L lb la out ib ia:=⟨I.perm.trans List.perm_append_comm,I.srt,I.hb,I.ha⟩
theorem LI.take (Sa:Inc L la) (I:LI L la lb out ia ib) (k:Nat) (h:∀x∈(la.drop ia).take k,∀y∈lb.drop ib,Le L x y):LI L la lb (out++(la.drop ia).take k) (ia + k) ib:=by
 have sd:Inc L (la.drop ia):=List.Pairwise.sublist (List.drop_sublist ..) Sa
 have sc:Inc L ((la.drop ia).take k++(la.drop ia).drop k):=by rw [List.take_append_drop]; exact sd
 have sp:=List.pairwise_append.mp sc
 refine ⟨?_,List.pairwise_append.mpr ⟨I.srt,sp.1,fun x hx y hy=>I.ha x hx y (List.mem_of_mem_take hy)⟩,fun x hx y hy=>?_,fun x hx y hy=>?_⟩
 ·rw [List.take_add]
  refine (I.perm.append_right _).trans ?_
  rw [Zy_,Zy_]
  exact List.Perm.append_left _ List.perm_append_comm
 ·rw [<-List.drop_drop] at hy
  rcases Θa hx with hx | hx
  ·exact I.ha x hx y (List.mem_of_mem_drop hy)
  ·exact sp.2.2 x hx y hy
 ·rcases Θa hx with hx | hx
  ·exact I.hb x hx y hy
  ·exact h x hx y hy
theorem LI.fin (Sa:Inc L la) (Sb:Inc L lb) (I:LI L la lb out ia ib) (h:∀x∈la.drop ia,∀y∈lb.drop ib,Le L x y):(out++la.drop ia++lb.drop ib).Perm (la++lb)/\Inc L (out++la.drop ia++lb.drop ib):=by
 have J:=I.take Sa (la.length - ia) fun x hx y hy=>h x (List.mem_of_mem_take hx) y hy
 have e1:(la.drop ia).take (la.length - ia)=la.drop ia:=List.take_of_length_le (by simp)
 rw [e1] at J
 have J2:=J.swap.take Sb (lb.length - ib) fun x hx y hy=>by
  rw [List.drop_eq_nil_of_le (by omega)] at hy; cases hy
 rw [List.take_of_length_le (by simp)] at J2
 refine ⟨J2.perm.trans ?_,J2.srt⟩
 rw [List.take_of_length_le (by omega),List.take_of_length_le (by omega)]
 exact List.perm_append_comm
structure HI (L:Keyed->Keyed->Bool) (la lb ro:List Keyed) (na nb:Nat):Prop where
 perm:ro.Perm (la.drop na++lb.drop nb)
 srt:Inc L ro
 ha:∀x∈la.take na,∀y∈ro,Le L x y
 hb:∀x∈lb.take nb,∀y∈ro,Le L x y
theorem HI.swap (I:HI L la lb ro na nb):HI L lb la ro nb na:=⟨I.perm.trans List.perm_append_comm,I.srt,I.hb,I.ha⟩
theorem HI.drop (Sa:Inc L la) (I:HI L la lb ro na nb) (k:Nat) (hk:k<=na) (h:∀x∈lb.take nb,∀y∈(la.take na).drop k,Le L x y):HI L la lb ((la.take na).drop k++ro) k nb:=by
 have sd:Inc L (la.take na):=List.Pairwise.sublist (List.take_sublist ..) Sa
 have sc:Inc L ((la.take na).take k++(la.take na).drop k):=by rw [List.take_append_drop]; exact sd
 have sp:=List.pairwise_append.mp sc
 have ek:(la.take na).take k=la.take k:=by rw [List.take_take,Nat.min_eq_left hk]
 refine ⟨?_,List.pairwise_append.mpr ⟨sp.2.1,I.srt,fun x hx y hy=>I.ha x (List.mem_of_mem_drop hx) y hy⟩,fun x hx y hy=>?_,fun x hx y hy=>?_⟩
 ·have e:la.drop k=(la.take na).drop k++la.drop na:=by
   rcases Nat.lt_or_ge la.length na with c | c
   ·rw [List.take_of_length_le (by omega),List.drop_eq_nil_of_le (i:=na) (by omega),List.append_nil]
   ·conv=>lhs; rw [<-List.take_append_drop na la]
    rw [List.drop_append_of_le_length (by rw [ZB]; omega)]
  rw [e,Zy_]
  exact I.perm.append_left _
 ·rw [<-ek] at hx
  rcases Θa hy with hy | hy
  ·exact sp.2.2 x hx y hy
  ·exact I.ha x (List.mem_of_mem_take hx) y hy
 ·rcases Θa hy with hy | hy
  ·exact h x hx y hy
  ·exact I.hb x hx y hy
theorem HI.fin (Sa:Inc L la) (Sb:Inc L lb) (I:HI L la lb ro na nb) (h:∀x∈la.take na,∀y∈lb.take nb,Le L x y):(la.take na++lb.take nb++ro).Perm (la++lb)/\Inc L (la.take na++lb.take nb++ro):=by
 have J:=I.swap.drop Sb 0 (Zp_ _) fun x hx y hy=>h x hx y (List.mem_of_mem_drop hy)
 have J2:=J.swap.drop Sa 0 (Zp_ _) fun x hx y hy=>by rw [List.take_zero] at hx; cases hx
 rw [List.drop_zero,List.drop_zero] at J2
 rw [Zy_]
 refine ⟨J2.perm.trans ?_,J2.srt⟩
 rw [List.drop_zero,List.drop_zero]
end
end SR
end L2
namespace L2
open PySem PySem.W PyProof.Rows
namespace SR
section
variable {L:Keyed->Keyed->Bool} {a b out:Array Keyed} {ia ib k:Nat} {x y:Keyed}
structure Kp (st st':SortSt):Prop where
 kind:kindOf st' = kindOf st
 arr:arrOf st' = arrOf st
 pend:pendingOf st' = pendingOf st
 failed:failedOf st' = failedOf st
theorem Kp.refl (st:SortSt):Kp st st:=⟨rfl,rfl,rfl,rfl⟩
theorem Ht {a:Array Keyed} {i j:Nat}:(a.extract i j).toList=(a.toList.drop i).take (j - i):=by
 simp
theorem Jm {a:Array Keyed} {i:Nat}:(a.extract i a.size).toList=a.toList.drop i:=by
 rw [Ht]; exact List.take_of_length_le (by simp)
theorem Qq {a:Array Keyed} {i:Nat}:a.toList[i]? = a[i]?:=by simp
theorem up (O:TO L) (Sa:Inc L a.toList) (h:a[ia]? = some x) (g:Le L y x):∀z∈a.toList.drop ia,Le L y z:=fun z hz=>by
 obtain ⟨j,hj,ej⟩:=Lz hz
 rw [<-Qq] at h
 exact g.trans O (Sa.le' O h ej hj)
noncomputable abbrev Fin (L:Keyed->Keyed->Bool) (a b r:Array Keyed):Prop:=r.toList.Perm (a.toList++b.toList)/\Inc L r.toList
noncomputable abbrev Lo (L:Keyed->Keyed->Bool) (a b out:Array Keyed) (ia ib:Nat):Prop:=LI L a.toList b.toList out.toList ia ib
theorem Lo.done (Sa:Inc L a.toList) (Sb:Inc L b.toList) (I:Lo L a b out ia ib) (h:ia=a.size\/ib=b.size):Fin L a b (out++a.extract ia a.size++b.extract ib b.size):=by
 have:=LI.fin Sa Sb I fun x hx y hy=>by
  rcases h with h | h
  ·rw [h,List.drop_eq_nil_of_le (by simp)] at hx; cases hx
  ·rw [h,List.drop_eq_nil_of_le (by simp)] at hy; cases hy
 unfold Fin
 rw [Array.toList_append,Array.toList_append,Jm,Jm]
 exact this
theorem Lo.last (Sa:Inc L a.toList) (Sb:Inc L b.toList) (h1:∀y∈b.toList,∀x,a[a.size - 1]? = some x->Le L y x) (I:Lo L a b out ia ib) (h:ia + 1=a.size):Fin L a b (out++b.extract ib b.size++a.extract ia a.size):=by
 have:=LI.fin Sb Sa I.swap fun y hy x hx=>by
  obtain ⟨j,hj,ej⟩:=Lz hx
  have hl:=(Ze_.mp ej).1
  rw [Zz_] at hl
  rw [Qq] at ej
  exact h1 y (List.mem_of_mem_drop hy) x (by rw [<-ej]; congr 1; omega)
 unfold Fin
 rw [Array.toList_append,Array.toList_append,Jm,Jm]
 exact ⟨this.1.trans List.perm_append_comm,this.2⟩
end
section
variable {prog:Program} {w:World} {A:Around} {E:Value->Shared->Prop} {s:Shared} {κ:SortKind} {U:Keyed->Prop} {L:Keyed->Keyed->Bool}
end
end SR
end L2
namespace L2
open PySem PySem.W PyProof.Rows
namespace SR
section
variable {prog:Program} {w:World} {A:Around} {E:Value->Shared->Prop} {s:Shared} {κ:SortKind} {U:Keyed->Prop} {L:Keyed->Keyed->Bool}
end
end SR
end L2
namespace L2
open PySem PySem.W PyProof.Rows
namespace SR
section
variable {L:Keyed->Keyed->Bool} {a b out:Array Keyed} {na nb k:Nat} {x y:Keyed}
theorem dn (O:TO L) (Sa:Inc L a.toList) (h:a[na - 1]? = some x) (g:Le L x y):∀z∈a.toList.take na,Le L z y:=fun z hz=>by
 obtain ⟨j,hj,ej⟩:=Mb hz
 rw [<-Qq] at h
 exact (Sa.le' O ej h (by omega)).trans O g
noncomputable abbrev Hi (L:Keyed->Keyed->Bool) (a b out:Array Keyed) (na nb:Nat):Prop:=HI L a.toList b.toList out.toList.reverse na nb
theorem ex0 {a:Array Keyed} {n:Nat}:(a.extract 0 n).toList=a.toList.take n:=by rw [Ht]; rfl
theorem Hi.done (Sa:Inc L a.toList) (Sb:Inc L b.toList) (I:Hi L a b out na nb) (h:na=0\/nb=0):Fin L a b (a.extract 0 na++b.extract 0 nb++out.reverse):=by
 have:=HI.fin Sa Sb I fun x hx y hy=>by
  rcases h with h | h
  ·rw [h] at hx; cases hx
  ·rw [h] at hy; cases hy
 unfold Fin
 rw [Array.toList_append,Array.toList_append,ex0,ex0,Array.toList_reverse]
 exact this
theorem Hi.first (Sa:Inc L a.toList) (Sb:Inc L b.toList) (h0:∀x∈a.toList,∀y,b[0]? = some y->Le L y x) (I:Hi L a b out na nb) (h:nb=1):Fin L a b (b.extract 0 nb++a.extract 0 na++out.reverse):=by
 have:=HI.fin Sb Sa I.swap fun y hy x hx=>by
  obtain ⟨j,hj,ej⟩:=Mb hy
  rw [Qq] at ej
  exact h0 x (List.mem_of_mem_take hx) y (by rw [<-ej]; congr 1; omega)
 unfold Fin
 rw [Array.toList_append,Array.toList_append,ex0,ex0,Array.toList_reverse]
 exact ⟨this.1.trans List.perm_append_comm,this.2⟩
end
section
variable {prog:Program} {w:World} {A:Around} {E:Value->Shared->Prop} {s:Shared} {κ:SortKind} {U:Keyed->Prop} {L:Keyed->Keyed->Bool}
end
end SR
end L2
namespace L2
open PySem PySem.W PyProof.Rows
namespace SR
section
variable {L:Keyed->Keyed->Bool}
end
section
variable {prog:Program} {w:World} {A:Around} {E:Value->Shared->Prop} {s:Shared} {κ:SortKind} {U:Keyed->Prop} {L:Keyed->Keyed->Bool}
end
end SR
end L2
namespace L2
open PySem PySem.W PyProof.Rows
namespace SR
section
variable {L:Keyed->Keyed->Bool} {xs:Array Keyed} {lo n q:Nat}
noncomputable def at_ (xs:Array Keyed) (k:Nat):Keyed:=(xs[k]?).getD (Value.none,Value.none)
theorem Aat {k:Nat} (h:k < xs.size):xs[k]? = some (at_ xs k):=by
 unfold at_
 rw [ZC h]
 rfl
theorem Vn {i j:Nat} (hj:j<=xs.size) (k:Nat):at_ (mirror xs i j ((j - i) / 2)) k=if i<=k/\k < j then at_ xs (i + j - 1 - k) else at_ xs k:=by
 unfold at_
 rw [getElem?_mirror_all hj]
 split <;> rfl
noncomputable def Up (L:Keyed->Keyed->Bool) (xs:Array Keyed) (lo n:Nat):Prop:=∀i j,i < j->j < n->Le L (at_ xs (lo + i)) (at_ xs (lo + j))
noncomputable def Dn (L:Keyed->Keyed->Bool) (xs:Array Keyed) (lo n:Nat):Prop:=∀i j,i < j->j < n->Le L (at_ xs (lo + j)) (at_ xs (lo + i))
theorem Up.more (O:TO L) (h:Up L xs lo n) (h1:1<=n) (g:Le L (at_ xs (lo + n - 1)) (at_ xs (lo + n))):Up L xs lo (n + 1):=fun i j hij hj=>by
 by_cases c:j < n
 ·exact h i j hij c
 ·have e:j=n:=by omega
  subst e
  by_cases d:i=j - 1
  ·rw [d,show lo + (j - 1)=lo + j - 1 by omega]; exact g
  ·have:=h i (j - 1) (by omega) (by omega)
   rw [show lo + (j - 1)=lo + j - 1 by omega] at this
   exact this.trans O g
theorem Dn.more (O:TO L) (h:Dn L xs lo n) (h1:1<=n) (g:Le L (at_ xs (lo + n)) (at_ xs (lo + n - 1))):Dn L xs lo (n + 1):=fun i j hij hj=>by
 by_cases c:j < n
 ·exact h i j hij c
 ·have e:j=n:=by omega
  subst e
  by_cases d:i=j - 1
  ·rw [d,show lo + (j - 1)=lo + j - 1 by omega]; exact g
  ·have:=h i (j - 1) (by omega) (by omega)
   rw [show lo + (j - 1)=lo + j - 1 by omega] at this
   exact g.trans O this
structure DI (L:Keyed->Keyed->Bool) (xs:Array Keyed) (lo n q:Nat):Prop where
 q1:q + 1<=n
 dn:Dn L xs lo n
 eq:∀i j,n - (q + 1)<=i->i < n->n - (q + 1)<=j->j < n->Le L (at_ xs (lo + i)) (at_ xs (lo + j))
theorem DI.one (O:TO L) (h1:1<=n) (h:Dn L xs lo n):DI L xs lo n 0:=⟨by omega,h,fun i j a b c d=>by
 have:i=j:=by omega
 rw [this]; exact irr O _⟩
theorem Dn.turn (D:Dn L xs lo n) (hs:lo + n<=xs.size):Up L (mirror xs lo (lo + n) ((lo + n - lo) / 2)) lo n:=fun i j hij hj=>by
 rw [Vn hs,Vn hs,if_pos (by omega),if_pos (by omega)]
 have:=D (n - 1 - j) (n - 1 - i) (by omega) (by omega)
 rw [show lo + (n - 1 - j)=lo + (lo + n) - 1 - (lo + j) by omega,show lo + (n - 1 - i)=lo + (lo + n) - 1 - (lo + i) by omega] at this
 exact this
theorem Up.same (O:TO L) (h:Up L xs lo n) (h1:1<=n) (g:Le L (at_ xs (lo + n - 1)) (at_ xs lo)):∀i j,i < n->j < n->Le L (at_ xs (lo + i)) (at_ xs (lo + j)):=fun i j hi hj=>by
 have top:Le L (at_ xs (lo + i)) (at_ xs (lo + n - 1)):=by
  by_cases c:i=n - 1
  ·rw [c,show lo + (n - 1)=lo + n - 1 by omega]; exact irr O _
  ·have:=h i (n - 1) (by omega) (by omega)
   rwa [show lo + (n - 1)=lo + n - 1 by omega] at this
 have low:Le L (at_ xs lo) (at_ xs (lo + j)):=by
  by_cases c:j=0
  ·rw [c]; exact irr O _
  ·exact h 0 j (by omega) hj
 exact (top.trans O g).trans O low
end
section
variable {prog:Program} {w:World} {A:Around} {E:Value->Shared->Prop} {s:Shared} {κ:SortKind} {U:Keyed->Prop} {L:Keyed->Keyed->Bool} {lo:Nat} {st0 st:SortSt}
structure Sg (κ:SortKind) (lo:Nat) (st0 st:SortSt):Prop where
 kind:kindOf st=κ
 failed:failedOf st=none
 pend:pendingOf st=pendingOf st0
 perm:(arrOf st).Perm (arrOf st0)
 pre:∀k,k < lo->(arrOf st)[k]? = (arrOf st0)[k]?
theorem Sg.size (G:Sg κ lo st0 st):(arrOf st).size=(arrOf st0).size:=G.perm.size_eq
theorem Sg.u (G:Sg κ lo st0 st) (u0:∀x∈(arrOf st0).toList,U x) {k:Nat} (h:k < (arrOf st).size):U (at_ (arrOf st) k):=by
 have:=Aat h
 exact u0 _ ((Array.perm_iff_toList_perm.mp G.perm).mem_iff.mp (by rw [<-Array.getElem?_toList] at this; exact Θe this))
end
end SR
end L2
namespace L2
open PySem PySem.W PyProof.Rows
namespace SR
section
variable {L:Keyed->Keyed->Bool}
noncomputable def Runs (L:Keyed->Keyed->Bool):Nat->List (Nat × Nat × Nat)->List (List Keyed)->Prop
 | _,[],[]=>True
 | o,p :: ps,r :: rs=>p.1=o/\p.2.1=r.length/\1<=r.length/\Inc L r/\Runs L (o + r.length) ps rs
 | _,_,_=>False
theorem Runs.len:∀{o:Nat} {ps:List (Nat × Nat × Nat)} {rs:List (List Keyed)},Runs L o ps rs->ps.length=rs.length/\rs.length<=rs.flatten.length
 | _,[],[],_=>⟨rfl,Zd_ _⟩
 | _,p :: ps,r :: rs,h=>by
  obtain ⟨_,_,h3,_,h5⟩:=h
  obtain ⟨e1,e2⟩:=h5.len
  rw [ZA,ZA,e1,List.flatten_cons,Zv_]
  exact ⟨rfl,by omega⟩
 | _,[],_ :: _,h=>h.elim
 | _,_ :: _,[],h=>h.elim
theorem Runs.push:∀{o:Nat} {ps:List (Nat × Nat × Nat)} {rs:List (List Keyed)} {r:List Keyed} {z:Nat},Runs L o ps rs->1<=r.length->Inc L r->Runs L o (ps++[(o + rs.flatten.length,r.length,z)]) (rs++[r])
 | o,[],[],r,z,_,h1,h2=>⟨by simp,rfl,h1,h2,trivial⟩
 | o,p :: ps,q :: rs,r,z,h,h1,h2=>by
  obtain ⟨a1,a2,a3,a4,a5⟩:=h
  have:=a5.push (z:=z) h1 h2
  refine ⟨a1,a2,a3,a4,?_⟩
  show Runs L (o + q.length) (ps++_) (rs++[r])
  rw [List.flatten_cons,Zv_,<-Nat.add_assoc]
  exact this
 | _,[],_ :: _,_,_,h,_,_=>h.elim
 | _,_ :: _,[],_,_,h,_,_=>h.elim
theorem Runs.alike:∀{o:Nat} {ps ps':List (Nat × Nat × Nat)} {rs:List (List Keyed)},Runs L o ps rs->ps'.map (fun p=>(p.1,p.2.1))=ps.map (fun p=>(p.1,p.2.1))->Runs L o ps' rs
 | _,[],[],[],_,_=>trivial
 | o,p :: ps,p' :: ps',r :: rs,h,e=>by
  obtain ⟨a1,a2,a3,a4,a5⟩:=h
  rw [List.map_cons,List.map_cons] at e
  injection e with e1 e2
  injection e1 with e3 e4
  exact ⟨e3.trans a1,e4.trans a2,a3,a4,a5.alike e2⟩
 | _,p :: ps,[],_,_,e=>by simp at e
 | _,[],p' :: ps',_,_,e=>by simp at e
 | _,[],_,_ :: _,h,_=>h.elim
 | _,_ :: _,_,[],h,_=>h.elim
theorem Runs.cut:∀{i o:Nat} {ps:List (Nat × Nat × Nat)} {rs:List (List Keyed)},Runs L o ps rs->i + 1 < ps.length->∃ps1 u v ps2 rs1 ra rb rs2,ps=ps1++u :: v :: ps2/\i=ps1.length/\rs=rs1++ra :: rb :: rs2/\u.1=o + rs1.flatten.length/\u.2.1=ra.length/\v.1=o + rs1.flatten.length + ra.length/\v.2.1=rb.length/\1<=ra.length/\1<=rb.length/\Inc L ra/\Inc L rb/\
  ∀m:List Keyed,m.length=ra.length + rb.length->Inc L m->Runs L o (ps1++(u.1,u.2.1 + v.2.1,u.2.2) :: ps2) (rs1++m :: rs2)
 | 0,o,u :: v :: ps,ra :: rb :: rs,h,_=>by
  obtain ⟨a1,a2,a3,a4,b1,b2,b3,b4,b5⟩:=h
  refine ⟨[],u,v,ps,[],ra,rb,rs,rfl,rfl,rfl,by simpa using a1,a2,by simpa using b1,b2,a3,b3,a4,b4,fun m e hm=>⟨a1,by rw [e,a2,b2],by omega,hm,?_⟩⟩
  rw [e,<-Nat.add_assoc]
  exact b5
 | i + 1,o,p :: ps,r :: rs,h,hi=>by
  obtain ⟨a1,a2,a3,a4,a5⟩:=h
  obtain ⟨ps1,u,v,ps2,rs1,ra,rb,rs2,e1,e2,e3,c1,c2,c3,c4,c5,c6,c7,c8,c9⟩:=a5.cut (i:=i) (by rw [ZA] at hi; omega)
  refine ⟨p :: ps1,u,v,ps2,r :: rs1,ra,rb,rs2,by rw [e1]; rfl,by rw [ZA,e2],by rw [e3]; rfl,?_,c2,?_,c4,c5,c6,c7,c8,fun m e hm=>⟨a1,a2,a3,a4,c9 m e hm⟩⟩
  ·rw [c1,List.flatten_cons,Zv_,Nat.add_assoc]
  ·rw [c3,List.flatten_cons,Zv_,Nat.add_assoc o]
 | _,_,[],_,_,hi=>by simp at hi
 | 0,_,[_],_,_,hi=>by simp at hi
 | 0,_,_ :: _ :: _,[],h,_=>h.elim
 | 0,_,_ :: _ :: _,[_],h,_=>h.2.2.2.2.elim
 | _ + 1,_,_ :: _,[],h,_=>h.elim
end
section
variable {prog:Program} {w:World} {A:Around} {E:Value->Shared->Prop} {s:Shared} {κ:SortKind} {U:Keyed->Prop} {L:Keyed->Keyed->Bool} {a₀:Array Keyed} {R:List Keyed} {st:SortSt}
structure St (L:Keyed->Keyed->Bool) (κ:SortKind) (a₀:Array Keyed) (R:List Keyed) (st:SortSt):Prop where
 kind:kindOf st=κ
 failed:failedOf st=none
 perm:(arrOf st).Perm a₀
 ex:∃rs,(arrOf st).toList=rs.flatten++R/\Runs L 0 (pendingOf st).toList rs
theorem St.u (S:St L κ a₀ R st) (u0:∀x∈a₀.toList,U x):∀x∈(arrOf st).toList,U x:=fun x hx=>u0 x ((Array.perm_iff_toList_perm.mp S.perm).mem_iff.mp hx)
theorem St.push (S:St L κ a₀ R st) {lo n:Nat} (e:lo + R.length=a₀.size) (h1:1<=n) (h2:n<=R.length) (hi:Inc L (R.take n)):St L κ a₀ (R.drop n) (setPending st ((pendingOf st).push (lo,n,0))):=by
 obtain ⟨rs,e1,r⟩:=S.ex
 have hl:lo=rs.flatten.length:=by
  have:=S.perm.size_eq
  rw [<-Zz_,e1,Zv_] at this
  omega
 refine ⟨S.kind,S.failed,S.perm,rs++[R.take n],?_,?_⟩
 ·show (arrOf st).toList=_
  rw [e1]
  simp
 ·show Runs L 0 ((pendingOf st).push (lo,n,0)).toList _
  have hn:(R.take n).length=n:=by rw [ZB]; omega
  have:=r.push (r:=R.take n) (z:=0) (by omega) hi
  rw [Nat.zero_add,<-hl,hn] at this
  rw [Array.toList_push]
  exact this
theorem St.mod (S:St L κ a₀ R st) (k pw:Nat):St L κ a₀ R (setPending st ((pendingOf st).modify k fun x=>(x.1,x.2.1,pw))):=by
 obtain ⟨rs,e1,r⟩:=S.ex
 refine ⟨S.kind,S.failed,S.perm,rs,e1,r.alike ?_⟩
 show List.map _ ((pendingOf st).modify k fun x=>(x.1,x.2.1,pw)).toList=_
 apply List.ext_getElem?
 intro j
 rw [Θg,Θg,Array.getElem?_toList,Array.getElem?_toList,Array.getElem?_modify]
 split
 ·cases (pendingOf st)[j]? <;> rfl
 ·rfl
end
end SR
end L2
namespace L2
open PySem PySem.Spec PySem.W PyProof.Rows
namespace ST
section
variable {prog:Program} {w:World} {A:Around} {E:Value->Shared->Prop} {s:Shared} {L a:Addr} {mm:Str->Option Value} {m:Nat} {rows:List (Addr × List Int)}
end
end ST
end L2
namespace L2
open PySem PySem.Spec PySem.W PyProof.Rows
namespace ST
section
variable {prog:Program} {w:World} {A:Around} {E:Value->Shared->Prop} {s:Shared} {m:Nat} {S:List (Addr × List Int)->Prop}
end
end ST
end L2
namespace L2
open PySem
namespace ST
end ST
end L2
namespace L2
open PySem
namespace ST
end ST
end L2
namespace L2
open PySem
namespace ST
end ST
end L2
namespace L2
open PySem
namespace ST
section
variable {M:Nat}
end
end ST
end L2
namespace L2
open PySem PySem.Spec
namespace ST
section
variable {prog:Program} {w:World} {K:Type} [DecidableEq K] (knd:PySem.KeyKind prog w K)
end
section
variable {prog:Program} {w:World} {K:Type} [DecidableEq K] {knd:PySem.KeyKind prog w K} {A:Around} {E:Value->Shared->Prop} {s:Shared} {a b:Addr} {xs:List (List K × Addr)} {led:Bool} {o:Obj} {ep:Nat} {t:SetTable} {k:List K} {Pl:Prop}
end
end ST
end L2
namespace L2
open PySem PySem.Spec
namespace ST
section
variable {prog:Program} {w:World} {K:Type} [DecidableEq K] {knd:PySem.KeyKind prog w K} {A:Around} {E:Value->Shared->Prop} {s:Shared} {a b:Addr} {xs:List (List K × Addr)} {led:Bool} {o:Obj} {ep:Nat} {t:SetTable} {k:List K} {Pl:Prop}
end
end ST
end L2
namespace L2
open PySem PySem.Spec
namespace ST
section
variable {prog:Program} {w:World} {K:Type} [DecidableEq K] {knd:PySem.KeyKind prog w K} {A:Around} {a I:Addr} {fp wr:List Addr} {St:Nat->Heap->Prop} {led:Bool} {ts:List (List K × Addr)} {R:Result->Shared->Prop} {P:Nat->Value->Prop} {N:Nat} {Pl:Prop}
end
end ST
end L2
namespace L2
open PySem PySem.Spec
namespace ST
section
variable {prog:Program} {w:World} {K:Type} [DecidableEq K] {knd:PySem.KeyKind prog w K} {A:Around} {E:Value->Shared->Prop} {s:Shared} {Pl:Prop}
noncomputable abbrev ledBy (w:World):Bool:=!w.params.followText "set-order"
noncomputable abbrev bare (w:World):Obj:={ cls:=.type "set",data:=.set #[] 0 (.fresh 0 0 (ledBy w)) }
theorem new_bare {a:Value} {R:PySem.Fin->Shared->Prop} (h:R (.done (.ret (.ref s.heap.objs.size))) { s with heap:=s.heap.push (bare w) }) :
  wpAny (model prog w) A (Builtin.«set.__new__» ⟨[.type "set",a],[]⟩) R E s:=by
 have hsub:=PySem.sub_set_self
 unfold Builtin.«set.__new__» Builtin.Frozenset.newClass
 wp_walk
 refine wpAny_askSetting (Zb_ ?_)
 dsimp only
 wp_walk
 exact h
end
end ST
end L2
namespace L2
open PySem PySem.Spec PySem.W PyProof.Rows
namespace ST
end ST
end L2
namespace L2
open PySem PySem.Spec PySem.W PyProof.Rows
namespace ST
section
variable {prog:Program} {w:World} {A:Around} {E:Value->Shared->Prop} {s:Shared} {a I:Addr} {o:Obj} {es:Array (Int × Value)} {ep:Nat} {t:SetTable}
end
end ST
end L2
namespace L2
open PySem PySem.Spec PySem.W PyProof.Rows
namespace ST
section
variable {prog:Program} {w:World} {A:Around} {E:Value->Shared->Prop} {s:Shared} {a I:Addr} {o:Obj} {es:Array (Int × Value)} {ep:Nat} {t:SetTable}
end
end ST
end L2
namespace L2
open PySem PySem.Spec PySem.W PyProof.Rows
namespace ST
section
variable {prog:Program} {w:World} {A:Around} {E:Value->Shared->Prop} {s:Shared} {a I:Addr} {o:Obj} {es:Array (Int × Value)} {ep:Nat} {t:SetTable}
end
end ST
end L2
namespace L2
open PySem PySem.Spec PySem.W PyProof.Rows
namespace ST
section
variable {prog:Program} {w:World} {A:Around} {E:Value->Shared->Prop} {s:Shared} {d I:Addr} {o:Obj} {es:Array DictEntry} {ep:Nat}
end
end ST
end L2
namespace L2
open PySem PySem.Spec PySem.W PyProof.Rows
section
variable {P:Program} {w:World} {H:Hp} {h:Heap} {m:Nat} {rows:List RW}
end
section
variable {X:Cx} {K:Θf}
end
noncomputable def L4 (l:List Str):List Str:=l.foldl (fun acc x=>if x∈acc then acc else acc++[x]) []
theorem Y2 (l:List Str) (x:Str):L4 (l++[x])=if x∈L4 l then L4 l else L4 l++[x]:=by
 unfold L4
 rw [List.foldl_append]; rfl
theorem Iq {α:Type} {p:List α->Prop} (h0:p []) (hs:∀l x,p l->p (l++[x])) (l:List α):p l:=by
 have:∀n (l:List α),l.length=n->p l:=by
  intro n
  induction n with
  | zero=>intro l h; rw [List.length_eq_zero_iff.mp h]; exact h0
  | succ n ih=>
   intro l h
   have hne:l≠[]:=fun z=>by rw [z] at h; cases h
   rw [<-List.dropLast_concat_getLast hne]
   exact hs _ _ (ih _ (by rw [List.length_dropLast,h]; rfl))
 exact this _ l rfl
theorem Vw (l:List Str):∀k,k∈L4 l↔k∈l:=by
 induction l using Iq with
 | h0=>intro k; exact Iff.rfl
 | hs l x ih=>
  intro k
  rw [Y2,List.mem_append,List.mem_singleton,<-ih k]
  split
  ·rename_i hx
   exact ⟨.inl,fun h=>h.elim id fun e=>e ▸ hx⟩
  ·rw [List.mem_append,List.mem_singleton]
theorem Lp (l:List Str):(L4 l).length<=l.length/\((L4 l).length=l.length↔l.Nodup):=by
 induction l using Iq with
 | h0=>exact ⟨Zd_ _,fun _=>List.nodup_nil,fun _=>rfl⟩
 | hs l x ih=>
  obtain ⟨h1,h2⟩:=ih
  have nd:(l++[x]).Nodup↔l.Nodup/\x∉l:=by
   rw [List.nodup_append]
   constructor
   ·rintro ⟨a,_,b⟩
    exact ⟨a,fun hx=>b x hx x (List.mem_singleton.mpr rfl) rfl⟩
   ·rintro ⟨a,b⟩
    refine ⟨a,List.nodup_cons.mpr ⟨Zi_,List.nodup_nil⟩,fun c hc d hd e=>b ?_⟩
    rw [<-Θs hd,<-e]
    exact hc
  rw [Y2,nd,Zv_,<-Vw l x,<-h2]
  split
  ·rename_i hx
   refine ⟨Nat.le_succ_of_le h1,fun e=>?_,fun e=>absurd hx e.2⟩
   simp only [List.length_cons,List.length_nil] at e
   omega
  ·rename_i hx
   rw [Zv_]
   simp only [List.length_cons,List.length_nil]
   exact ⟨by omega,fun e=>⟨by omega,hx⟩,fun e=>by omega⟩
section
variable {prog:Program} {w:World} {A:Around} {a I:Addr} {fp wr:List Addr} {St:Nat->Heap->Prop} {ws:List Str} {R:Result->Shared->Prop} {P:Nat->Value->Prop} {N:Nat}
theorem X8 {h h':Heap} {S:Str->Bool} {n:Nat} (x:h.SetOf (strKind prog w) a S n) (e:∀o,h.get? a=some o->h'.get? a=some o):h'.SetOf (strKind prog w) a S n:=by
 obtain ⟨o,es,ep,t,ho,rest⟩:=x
 exact ⟨o,es,ep,t,e _ ho,rest⟩
theorem Zn {h:Heap} {S S':Str->Bool} {n n':Nat} (x:h.SetOf (strKind prog w) a S n) (e:∀k,S k=S' k) (en:n=n'):h.SetOf (strKind prog w) a S' n':=by
 have:S=S':=funext e
 rw [<-this,<-en]
 exact x
theorem Xc (W:Walks prog w A.in1 I fp wr N P St) (hN:N=ws.length) (hP:∀i v,P i v->∃x t,ws[i]? = some x/\v = .str x t) (haf:a∉fp) (l18:ws.length<=306) :
  ∀(n i:Nat) (s:Shared),n=ws.length - i->i<=ws.length->St i s.heap->s.heap.SetOf (strKind prog w) a (fun k=>decide (k∈L4 (ws.take i))) (L4 (ws.take i)).length->
   (∀h' tk,(∀b o,b≠a->b∉wr->s.heap.get? b=some o->h'.get? b=some o)->h'.SetOf (strKind prog w) a (fun k=>decide (k∈L4 ws)) (L4 ws).length->R (.ok (.ret .none)) { s with heap:=h',toks:=tk })->
   codeAny (model prog w) A (.builtin "set.update.loop" ⟨[.ref a,.ref I],[]⟩) R s:=by
 have haw:a∉wr:=fun h=>haf (W.sub _ h)
 subst hN
 intro n
 induction n with
 | zero=>
  intro i s hn hi st S q
  have e:i=ws.length:=by omega
  subst e
  refine codeAny_builtin PyProof.Rows.F.entry_set_update_loop ?_
  rw [Around.under_plainId PyProof.Rows.F.plain_set_update_loop _]
  unfold Builtin.«set.update.loop»
  dsimp only
  refine Za_ (W.done s _ _ st fun h' tk keep=>?_)
  dsimp only
  rw [List.take_length] at S
  exact Zb_ (q h' tk (fun b o _ nb e=>keep b o nb e) (X8 S fun o e=>keep a o haw e))
 | succ n ih=>
  intro i s hn hi st S q
  have hlt:i < ws.length:=by omega
  refine codeAny_builtin PyProof.Rows.F.entry_set_update_loop ?_
  rw [Around.under_plainId PyProof.Rows.F.plain_set_update_loop _]
  unfold Builtin.«set.update.loop»
  dsimp only
  refine Za_ (W.item i s _ _ hlt st fun v h' tk hv' st' keep=>?_)
  obtain ⟨x,t,hx,rfl⟩:=hP _ _ hv'
  have S':=X8 S fun o e=>keep a o haw e
  dsimp only
  refine Za_ (wpAny_holding ?_)
  unfold setAdd
  have isx:(strKind prog w).is x (.str x t)=true:=by show Value.isStrOf x (.str x t)=true; simp [Value.isStrOf]
  refine wpAny_holding (Za_ ((strKind prog w).pyHash (k:=x) isx ?_))
  have et:ws.take (i + 1)=ws.take i++[x]:=by rw [List.take_succ,hx]; rfl
  have lt:(L4 (ws.take i)).length + 1 < scanBound:=by
   have h1:=(Lp (ws.take i)).1
   have h2:=List.length_take_le i ws
   unfold scanBound
   omega
  refine wpAny_setAddHashed_of (knd:=strKind prog w) (s:={ s with heap:=h',toks:=tk + 1 }) isx rfl S' lt fun h2 sb S2=>?_
  refine Zb_ ⟨plainId_quiet PyProof.Rows.F.plain_set_update_loop _,?_⟩
  refine ih (i + 1) _ (by omega) hlt (W.frame (i + 1) h' h2 st' fun c hc o e=>by rw [sb.2 c (fun z=>haf (z ▸ hc))]; exact e) (Zn S2 (fun k=>?_) ?_) fun h3 tk3 keep3 T3=>q h3 tk3 (fun c o nc nw e=>keep3 c o nc nw (by show h2.get? c=some o; rw [sb.2 c nc]; exact keep c o nw e)) T3
  ·rw [et,Y2]
   split
   ·rename_i hd
    by_cases ek:k=x
    ·subst ek; rw [Zr_ hd]; rfl
    ·rw [decide_eq_false ek,Bool.or_false]
   ·rw [Bool.eq_iff_iff,Bool.or_eq_true,decide_eq_true_iff,decide_eq_true_iff,decide_eq_true_iff,List.mem_append,List.mem_singleton]
  ·rw [et,Y2]
   by_cases hd:x∈L4 (ws.take i)
   ·rw [if_pos hd,if_pos (Zr_ hd)]
   ·rw [if_neg hd,if_neg (by rw [decide_eq_false hd]; exact Zf_),Zv_]; rfl
end
section
variable {prog:Program} {w:World} {A:Around} {E:Value->Shared->Prop} {s:Shared}
theorem Aaw {l:Addr} {ws:List Str} {vs:List Value} {Q:Value->Shared->Prop} (hh:A.handled=none) (hl:s.heap.IsList l vs.toArray) (hv:Vals (ws.map V.str) vs) (l18:ws.length<=306)
  (h:∀h' tk,h'.SetOf (strKind prog w) s.heap.objs.size (fun k=>decide (k∈L4 ws)) (L4 ws).length->(∀b o,b < s.heap.objs.size->s.heap.get? b=some o->h'.get? b=some o)->Q (.ref s.heap.objs.size) { s with heap:=h',toks:=tk }) :
  wpAny (model prog w) A (call (.type "set") [.ref l]) Q E s:=by
 refine wpAny_call ?_
 refine codeAny_of_tree ?_
 wp_walk
 have C:=PySem.F.called_set
 obtain ⟨c,tl,hm⟩:=C.mro
 have n1:=C.notType
 have n2:=C.canCreate
 have n3:=C.made
 have n4:=C.sub
 have chk:=PySem.F.typeCall_set_1 (.ref l)
 constructor
 ·exact Code.quiet_builtin _ (by decide +kernel)
 refine codeAny_builtin PySem.F.entry_type_call ?_
 rw [Around.under_plain (weight_type_call_type "set" [.ref l] []) rfl]
 unfold Builtin.«type.__call__»
 wp_walk
 refine codeAny_call_builtin PySem.F.plain_set_new PySem.F.entry_set_new (wpAny_of_eq (PySem.F.newCall_set_1 (.ref l)) (ST.new_bare ?_))
 have hS:(s.heap.push (ST.bare w)).get? s.heap.objs.size=some (ST.bare w):=Zm_ _ rfl
 have ty:Shared.TypeIs { s with heap:=s.heap.push (ST.bare w) } (.ref s.heap.objs.size) "set":=⟨_,hS,rfl⟩
 have li:=C.init.lookup
 have bi:=C.init.bind (.ref s.heap.objs.size)
 wp_walk
 refine codeAny_call_builtin C.init.plain PySem.F.entry_set_init (check_set_init_1 ty ?_)
 have hl1:(s.heap.push (ST.bare w)).IsList l vs.toArray:=hl.push _
 have lty:Shared.TypeIs { s with heap:=s.heap.push (ST.bare w) } (.ref l) "list":=by
  obtain ⟨ol,a1,a2,_⟩:=hl1
  exact ⟨ol,a1,a2⟩
 have s1:=PySem.F.sub_list_set
 have s2:=PySem.F.sub_list_frozenset
 unfold Builtin.«set.__init__» noKeywords Builtin.Frozenset.updateFrom
 wp_walk using wpAny_pyIter_list hl1
 have lt:l < s.heap.objs.size:=by obtain ⟨ol,a1,_⟩:=hl; exact Zn_ a1
 have sz:(s.heap.push (ST.bare w)).objs.size=s.heap.objs.size + 1:=Heap.size_push ..
 have lv:vs.length=ws.length:=by rw [<-hv.length,Θl]
 refine Xc (ws:=ws) (a:=s.heap.objs.size) (Walks.list (A:=A.in1.in1.in1) hh _ l (Zs_ (by show l < (s.heap.push (ST.bare w)).objs.size; rw [sz]; exact Nat.lt_succ_of_lt lt)) vs.toArray) (by rw [Zx_]; exact lv) (fun i v e=>?_) ?_ l18 ws.length 0 _ (by omega) (Zp_ _) ⟨⟨_,Zm_ _ rfl,rfl,rfl⟩,hl1.push _⟩ ?_ fun h' tk keep T=>?_
 ·rw [List.getElem?_toArray] at e
  have hi:i < ws.length:=by rw [<-lv]; exact (Ze_.mp e).1
  obtain ⟨u,hu,ru⟩:=hv.get (i:=i) (x:=V.str ws[i]) (by rw [Θg,Θh hi]; rfl)
  rw [hu] at e
  obtain rfl:=Θo e
  obtain ⟨t,rfl⟩:=ru
  exact ⟨_,t,Θh hi,rfl⟩
 ·show s.heap.objs.size∉[(s.heap.push (ST.bare w)).objs.size,l]
  rw [sz]
  intro z
  rcases Zg_.mp z with z | z
  ·exact absurd z (Zs_ (Nat.lt_succ_self _))
  ·exact absurd (Θs z) (Nat.ne_of_gt lt)
 ·exact (setObjOf_fresh (knd:=strKind prog w) (ST.ledBy w)).setOf (Heap.get?_push_of_some _ hS) (by unfold scanBound; omega)
 ·dsimp only
  wp_walk
  refine h h' tk T fun b o hb e=>keep b o (Zs_ hb) ?_ (Zc_ _ (Zc_ _ e))
  show b∉[(s.heap.push (ST.bare w)).objs.size]
  rw [sz]
  intro z
  exact absurd (Θs z) (Zs_ (Nat.lt_succ_of_lt hb))
end
noncomputable def ssO (P:Program) (w:World) (a:Addr) (n:Nat):HO:=.ext fun h=>∃S,h.SetOf (strKind P w) a S n
section
variable {X:Cx} {K:Θf}
theorem Sw (hK:X.K=K) (hc:X.calm=true):Q6 X (.type "set") (fun xs H Q=>∃(p:Addr) (ws:List Str),xs=[.ref p]/\SqL K H p (ws.map V.str)/\ws.length<=300/\∀l:Addr,H l=none->Q (.ref l) (upd H l (ssO X.prog X.w l (L4 ws).length))):=by
 subst hK
 intro pins s σ H xs us Q I r h
 obtain ⟨p,ws,rfl,hq,l18,q⟩:=h
 obtain ⟨u,rfl,rx⟩:=Z9 r
 cases rx
 obtain ⟨its,rv,pl,hz⟩:=I.list hq
 refine Aaw (ws:=ws) (I.ok.hd hc) pl.isList rv (by omega) fun h' tk T keep=>?_
 have ob:ObjOk X.prog X.w H h' s.heap.objs.size (ssO X.prog X.w s.heap.objs.size (L4 ws).length):=by
  refine ⟨⟨_,T⟩,?_,fun _ _ ⟨S,x⟩ k=>⟨S,X8 x fun o e=>k o e⟩⟩
  obtain ⟨o,es,ep,t,ho,_⟩:=T
  exact ⟨o,ho⟩
 exact ⟨.ref s.heap.objs.size,_,I.laid (t':=tk) (o:=ssO X.prog X.w s.heap.objs.size (L4 ws).length) (fun b o e=>keep b o (Zn_ e) e) (Zd_ _) ob,rfl,q _ I.fresh⟩
theorem Nt:Q6 X (.builtin "len") (fun xs H Q=>∃(p:Addr) (n:Nat),xs=[.ref p]/\H p=some (ssO X.prog X.w p n)/\n<=1000/\Q (vN n) H):=by
 intro pins s σ H xs us Q I r h
 obtain ⟨p,n,rfl,hq,hn,q⟩:=h
 obtain ⟨u,rfl,rx⟩:=Z9 r
 cases rx
 obtain ⟨⟨S,o,es,ep,t,ho,hex,hd,_,_,_,hf,rfl⟩,_⟩:=(show ObjOk X.prog X.w H s.heap p (ssO X.prog X.w p n) from I.hok p _ hq)
 exact call_len_set ho hex hd hf (by omega) ⟨vN es.size,H,I.tok _,⟨_,rfl⟩,q⟩
end
end L2
namespace L2
open PySem PySem.Spec PyProof.Rows
noncomputable def Itc (z:Str):It:=⟨fun i _=>i < z.cps.size,fun i H x H'=>H' = H/\∃c,z.cps.toList[i]? = some c/\x = .str ⟨#[c]⟩,fun i _=>z.cps.size<=i⟩
theorem Aag {P:Program} {w:World} {K:Θf} {tg:Expr} (it:Addr) (z:Str) (t:Tok):Turn P w K tg (Itc z) [it] it (fun i h=>h.IsStrIter it "str_ascii_iterator" z t i) where
 mem:=by simp
 obj:=fun i h st b hb=>by
  have e:b=it:=by simpa using hb
  subst e
  obtain ⟨o,e,c,d⟩:=st
  exact ⟨o,e,fun v z=>by rw [d] at z; cases z⟩
 keep:=fun i h h' st k=>by
  obtain ⟨o,e,r⟩:=st
  exact ⟨o,k it (by simp) o e,r⟩
 item:=by
  intro X hP hw hK hc i pins s σ H E I hf st hg
  subst hP hw hK
  obtain ⟨f0,f1,f2,f3,f4,f5⟩:=hf it (by simp)
  have W:=Walks.strAscii (prog:=X.prog) (w:=X.w) (I.ok.hd hc) it z t
  refine W.item i s _ _ hg st fun v h' tk hv st' kk=>?_
  obtain ⟨c,u,hcu,rfl⟩:=hv
  have I1:Inv X pins σ H { s with heap:=h',toks:=tk }:=I.turned (fun b o hb e=>kk b o (by simpa using hb) e) f0 f1 f3 f4 f5
  obtain ⟨o,e,cl,d⟩:=id st'
  exact ⟨_,rfl,Qr (s:={ s with heap:=h',toks:=tk }) e cl d (by decide) ⟨.str ⟨#[c]⟩,H,I1,⟨u,rfl⟩,⟨rfl,c,by rw [Array.getElem?_toList]; exact hcu,rfl⟩,st',fun b hb=>(hf b hb).1⟩⟩
 done:=by
  intro X hP hw hK hc i pins s σ H E I hf st hg
  subst hP hw hK
  obtain ⟨f0,f1,f2,f3,f4,f5⟩:=hf it (by simp)
  have hi:z.cps.size<=i:=hg
  exact wpAny_pyNext_ascii_end (I.ok.hd hc) st (by simp; omega) fun h' eb=>⟨rfl,I.turned (t':=s.toks) (fun b o hb e=>eb b o hb e) f0 f1 f3 f4 f5⟩
 self:=fun _ _ _ _ _ st h=>wpAny_pyIter_striter_ascii st h
section
variable {X:Cx} {tg:Expr}
noncomputable def Ag1 (tl:TE):TI:=fun σ H R=>tl σ H fun x H1=>∃z:Str,x = .str z/\(∀c∈z.cps.toList,c < 128)/\R (Itc z) H1
theorem Ael {l:Expr} {tl:TE} (hl:PE X l tl):PI X tg l (Ag1 tl):=by
 intro pins s σ H R I h
 refine thn (hl pins s σ H _ I h) fun v s1 ⟨x,H1,I1,r1,q1⟩=>?_
 obtain ⟨z,e,ha,q⟩:=q1
 subst e
 obtain ⟨t,rfl⟩:=r1
 have hall:z.cps.all (· < 128)=true:=by
  rw [<-Array.all_toList,List.all_eq_true]
  exact fun c hc=>Zr_ (ha c hc)
 refine wpAny_pyIter_ascii hall ?_
 refine ⟨s1.heap.objs.size,[s1.heap.objs.size],_,_,H1,rfl,I1.kept (t':=s1.toks) fun b o e=>Zc_ _ e,Aag _ z t,⟨_,Zm_ _ rfl,rfl,rfl⟩,fun b hb=>?_,q⟩
 have e:b=s1.heap.objs.size:=by simpa using hb
 subst e
 exact I1.fpOk (Zd_ _) (I1.hok.fresh (Zd_ _))
theorem Adv {z:Str} {n:Nat} {g:TG} {tc:TT} {te:TE} {σ:St} {H:Hp} {F:List V->Hp->Prop} (Pv:Nat->List V->Hp->Prop) (hn:z.length<=1000000) (h0:Pv 0 [] H)
  (hl:∀i acc H,i<=z.length->Pv i acc H->acc.length<=i)
  (hs:∀i c acc H,z.cps.toList[i]? = some c->Pv i acc H->g (.str ⟨#[c]⟩) (List.replicate n none++σ) H fun σ2 H2=>σ2.drop n=σ/\tc σ2 H2 fun c H3=>if c=true then te σ2 H3 fun y H4=>Pv (i + 1) (acc++[y]) H4 else Pv (i + 1) acc H3)
  (hd:∀acc H,Pv z.length acc H->F acc H):LCW n (Itc z) g tc te σ H F:=by
 have sz:(1000000:Nat) < sizeLine:=by rw [sizeLine_eq]; decide
 refine ⟨fun i m acc H=>m=z.length - i/\i<=z.length/\Pv i acc H,⟨z.length,by simp,Nat.zero_le _,h0⟩,?_⟩
 rintro i m acc H ⟨rfl,hi,p⟩
 have q:=hl i acc H hi p
 by_cases hlt:i < z.length
 ·refine .inr ⟨hlt,by omega,Pv (i + 1),fun acc' H' p'=>⟨z.length - (i + 1),by omega,rfl,hlt,p'⟩,fun x H' y=>?_⟩
  obtain ⟨rfl,c,hc,rfl⟩:=y
  exact hs i c acc _ hc p
 ·have e:i=z.length:=by omega
  subst e
  exact .inl ⟨Zd_ _,by omega,hd acc H p⟩
end
noncomputable def C8:Str:=⟨#[32]⟩
noncomputable def nlS:Str:=⟨#[10]⟩
noncomputable def columnsS:Str:="columns"
noncomputable def L9:Str:="settle"
noncomputable def Du:Str:="deal"
noncomputable def Eg (z:Str):Bool:=decide (z=L9) || decide (z=Du)
theorem Rj (b:Bool):Eg (D6 b)=true:=by cases b <;> decide +kernel
noncomputable def NW (nms:List Str):Prop:=∀n∈nms,Eg n=false
noncomputable def Tl (c:Nat):Bool:=decide (97<=c) && decide (c<=122)
noncomputable def W1 (z:Str):Bool:=decide (1<=z.length) && decide (z.length<=8) && !Eg z && z.cps.toList.all Tl
noncomputable def R8 (ws:List Str):Bool:=!ws.isEmpty && decide (ws.length<=7) && decide ws.Nodup && ws.all W1
theorem Ob:∀c,c < 128->(!(Builtin.Str.occurrences letS ⟨#[c]⟩ 0 letS.length 1).isEmpty)=Tl c:=by decide +kernel
noncomputable def Nn (z:Str):Prop:=∀c∈z.cps.toList,97<=c/\c<=122
theorem Xd (b:Bool):Nn (D6 b)/\(D6 b).length<=8:=by cases b <;> exact ⟨by unfold Nn; decide +kernel,by decide +kernel⟩
theorem Ly:Nn columnsS/\columnsS.length<=8:=⟨by unfold Nn; decide +kernel,by decide +kernel⟩
noncomputable def N8 (nms:List Str) (r:RD):List Str:=D8 nms r.2.1++D6 r.1 :: D8 nms r.2.2
noncomputable def K3 (nms:List Str) (r:RD):Str:=Str.join C8 (N8 nms r)
noncomputable def P0 (nms:List Str):Str:=Str.join C8 (columnsS :: nms)
noncomputable def O0 (nms:List Str) (rs:List RD):List Str:=P0 nms :: rs.map (K3 nms)
noncomputable def Ch (nms:List Str) (rs:List RD):Str:=Str.join nlS (O0 nms rs)
noncomputable def InR (nms:List Str) (r:RD):Prop:=r.2.1 < 2 ^ nms.length/\r.2.2 < 2 ^ nms.length
theorem V6 {sc:Nat} {p:Nat->Prop} (h0:p sc):∀{ps:List Str},(∀x∈ps,∀c∈x.cps.toList,p c)->∀c∈(Str.join ⟨#[sc]⟩ ps).cps.toList,p c
 | [],_,c,hc=>by cases hc
 | [x],h,c,hc=>h x (List.mem_singleton.mpr rfl) c hc
 | x :: q :: r,h,c,hc=>by
  have e:Str.join ⟨#[sc]⟩ (x :: q :: r)=x++⟨#[sc]⟩++Str.join ⟨#[sc]⟩ (q :: r):=rfl
  rw [e,Str.cps_append,Str.cps_append,Array.toList_append,Array.toList_append] at hc
  rcases Θa hc with hc | hc
  ·rcases Θa hc with hc | hc
   ·exact h x (Θc ..) c hc
   ·rw [Θs hc]; exact h0
  ·exact V6 h0 (fun y hy=>h y (Θd _ hy)) c hc
theorem Bf {sep:Str} {ys:List Str} {d:Nat} (h:∀y∈ys,y.length<=d) (hs:sep.length=1):(Str.join sep ys).length<=ys.length * d + ys.length:=by
 have h2:=Dl h
 have h3:=StrLaws.join_length_le sep ys
 rw [hs] at h3
 omega
theorem Q2 {sep:Str} {ys:List Str} {d:Nat} (h:∀y∈ys,y.length<=d) (hs:sep.length=1) (hb:ys.length * d + ys.length<=100000):JoinOk sep ys=true:=by
 have h2:=Dl h
 unfold JoinOk
 rw [Bool.not_eq_true']
 show decide (_ > sizeLine)=false
 rw [StrLaws.joinTotal,decide_eq_false]
 have:=sizeLine_eq
 rw [hs]
 omega
section
variable {nms:List Str} {rs:List RD} {r:RD}
theorem X6 (N:NM nms) (h:InR nms r):∀w∈N8 nms r,Nn w/\w.length<=8:=fun w hw=>by
 rcases Θa hw with hw | hw
 ·exact ⟨Cw N h.1 w hw,N.len w (V5 N h.1 hw)⟩
 ·rcases Zg_.mp hw with rfl | hw
  ·exact Xd _
  ·exact ⟨Cw N h.2 w hw,N.len w (V5 N h.2 hw)⟩
theorem Bq (N:NM nms) (h:InR nms r):(N8 nms r).length<=15:=by
 have h1:=P2 N h.1
 have h2:=P2 N h.2
 unfold N8
 rw [Zv_,ZA]
 omega
theorem W8 (N:NM nms):∀w∈columnsS :: nms,Nn w/\w.length<=8:=fun w hw=>by
 rcases Zg_.mp hw with rfl | hw
 ·exact Ly
 ·exact ⟨N.low w hw,N.len w hw⟩
theorem Wh {ws:List Str} (h:∀w∈ws,Nn w):∀w∈ws,32∉w.cps.toList:=fun w hw z=>by
 have:=h w hw 32 z
 omega
theorem Gv (N:NM nms) (h:InR nms r):Txt.split (K3 nms r) C8=N8 nms r:=
 P8 (c:=32) (by decide) (fun z=>by have:=congrArg List.length z; unfold N8 at this; rw [List.length_append,List.length_cons,List.length_nil] at this; omega) (Wh fun w hw=>(X6 N h w hw).1)
theorem Px (N:NM nms):Txt.split (P0 nms) C8=columnsS :: nms:=
 P8 (c:=32) (by decide) (List.cons_ne_nil _ _) (Wh fun w hw=>(W8 N w hw).1)
noncomputable def okT (c:Nat):Prop:=c=32\/97<=c/\c<=122
theorem Qv (N:NM nms) (h:InR nms r):(∀c∈(K3 nms r).cps.toList,okT c)/\(K3 nms r).length<=150:=by
 refine ⟨V6 (sc:=32) (.inl rfl) fun w hw c hc=>.inr ((X6 N h w hw).1 c hc),?_⟩
 have h1:=Bq N h
 have h2:=Bf (sep:=C8) (fun w hw=>(X6 N h w hw).2) rfl
 have e:K3 nms r=Str.join C8 (N8 nms r):=rfl
 rw [<-e] at h2
 omega
theorem Qs (N:NM nms):(∀c∈(P0 nms).cps.toList,okT c)/\(P0 nms).length<=150:=by
 refine ⟨V6 (sc:=32) (.inl rfl) fun w hw c hc=>.inr ((W8 N w hw).1 c hc),?_⟩
 have h1:=N.l7
 have h2:=Bf (sep:=C8) (fun w hw=>(W8 N w hw).2) rfl
 have e:P0 nms=Str.join C8 (columnsS :: nms):=rfl
 rw [<-e,ZA] at h2
 omega
theorem X1 (N:NM nms) (h:∀r∈rs,InR nms r):∀w∈O0 nms rs,(∀c∈w.cps.toList,okT c)/\w.length<=150:=fun w hw=>by
 rcases Zg_.mp hw with rfl | hw
 ·exact Qs N
 ·obtain ⟨r,hr,rfl⟩:=Θn hw
  exact Qv N (h r hr)
theorem Gw (N:NM nms) (h:∀r∈rs,InR nms r):Txt.split (Ch nms rs) nlS=O0 nms rs:=
 P8 (c:=10) (by decide) (List.cons_ne_nil _ _) fun w hw z=>by
  rcases (X1 N h w hw).1 10 z with h | h <;> omega
theorem U4 (nms:List Str) (rs:List RD):(O0 nms rs).length=rs.length + 1:=by unfold O0; rw [List.length_cons,Θl]
theorem Aae (N:NM nms) (h:∀r∈rs,InR nms r) (l:rs.length<=12):(Ch nms rs).length<=2000:=by
 have h2:=Bf (sep:=nlS) (fun w hw=>(X1 N h w hw).2) rfl
 have e:Ch nms rs=Str.join nlS (O0 nms rs):=rfl
 rw [<-e,U4] at h2
 omega
theorem Xl (N:NM nms) (W:NW nms):R8 nms=true:=by
 unfold R8
 have h1:=N.l1
 simp only [Bool.and_eq_true,Bool.not_eq_true',decide_eq_true_iff,List.all_eq_true,List.isEmpty_eq_false_iff]
 refine ⟨⟨⟨fun z=>by rw [z] at h1; exact absurd h1 (by decide),N.l7⟩,N.nd⟩,fun w hw=>?_⟩
 unfold W1 Tl
 simp only [Bool.and_eq_true,Bool.not_eq_true',decide_eq_true_iff,List.all_eq_true]
 refine ⟨⟨⟨?_,N.len w hw⟩,W w hw⟩,N.low w hw⟩
 have ne:=N.ne w hw
 have:w.cps.toList.length≠0:=fun z=>ne (List.length_eq_zero_iff.mp z)
 rw [Zz_] at this
 show 1<=w.cps.size
 omega
end
theorem Abf:∀r,r < 26->∀n,n < 8->(He r n).all (fun z=>!Eg z)=true:=by decide +kernel
theorem Adz {r n:Nat} (h:r < 26) (hn:n<=7):NW (He r n):=fun w hw=>by
 have:=List.all_eq_true.mp (Abf r h n (by omega)) w hw
 simpa using this
theorem Afu {c size at_ n:Nat} (h4:size≠4) (h6:size≠6):NW (evN c size at_ n):=fun w hw=>by
 obtain ⟨k,_,rfl⟩:=Θn hw
 have l:(evS c size at_ k).length=size:=by show (evL c size at_ k).toArray.size=size; rw [Zx_,Jl]
 unfold Eg
 rw [Bool.or_eq_false_iff,decide_eq_false_iff_not,decide_eq_false_iff_not]
 refine ⟨fun z=>h6 ?_,fun z=>h4 ?_⟩
 ·rw [<-l,z]; rfl
 ·rw [<-l,z]; rfl
theorem Acg:∀n,n < 6->∃z:Nat,([vN 1,vN 2,vN 3,vN 5,vN 7,vN 8]:List V)[n]? = some (vN z)/\1<=z/\z<=8/\z≠4/\z≠6
 | 0,_=>⟨1,rfl,by decide,by decide,by decide,by decide⟩
 | 1,_=>⟨2,rfl,by decide,by decide,by decide,by decide⟩
 | 2,_=>⟨3,rfl,by decide,by decide,by decide,by decide⟩
 | 3,_=>⟨5,rfl,by decide,by decide,by decide,by decide⟩
 | 4,_=>⟨7,rfl,by decide,by decide,by decide,by decide⟩
 | 5,_=>⟨8,rfl,by decide,by decide,by decide,by decide⟩
noncomputable def Iv:Sp:=fun vs H Q _=>∃c n:Nat,vs=[vN c,vN n]/\1<=n/\n<=7/\∀(nms:List Str) (l:Addr) (H':Hp),NM nms->NW nms->nms.length=n->Same H H'->H l=none->H' l=some (.lst (nms.map V.str))->Q (.ref l) H'
theorem Uv {n:Nat} (h:n<=100000):n < sizeLine:=Nat.lt_of_le_of_lt h (by decide)
section
variable {X:Cx}
theorem Y5:MtR X "str.split" (fun x xs H Q=>∃z y:Str,x = .str z/\xs=[.str y]/\(y.length == 0)=false/\z.length<=100000/\(Txt.split z y).length<=1000/\∀D,H D=none->Q (.ref D) (upd H D (.lst ((Txt.split z y).map V.str)))):=by
 intro pins s σ H x xs v us Q I rx rv h
 obtain ⟨z,y,rfl,rfl,hy,hz,hn,q⟩:=h
 obtain ⟨tk,rfl⟩:=rx
 obtain ⟨u,rfl,ru⟩:=rv.one
 obtain ⟨tk2,rfl⟩:=ru
 have fin:∀(l:List (Str × Tok)) (k:Nat),l.map (·.1)=Txt.split z y->EP X pins σ Q (.ref s.heap.objs.size) { s with toks:=k,heap:=s.heap.push { cls:=.type "list",data:=.seq (strValues l).toArray } }:=fun l k e=>by
  refine ⟨.ref s.heap.objs.size,_,I.laid (t':=k) (o:=.lst ((Txt.split z y).map V.str)) (fun b ob q=>Zc_ _ q) (Zd_ _) ?_,rfl,q _ (I.hok.fresh (Zd_ _))⟩
  refine ⟨by rw [Θl]; exact Nat.le_of_lt (D0 hn),strValues l,0,by rw [<-e]; exact Dp l,Zm_ _ rfl⟩
 cases h1:(decide (z.length < y.length) || decide (Builtin.Str.strKind z < Builtin.Str.strKind y))
 ·cases hf:(Builtin.Str.occurrences z y 0 z.length (z.length + 1)).isEmpty
  ·have es:Txt.split z y=Builtin.Str.partsBetween z (Builtin.Str.occurrences z y 0 z.length (z.length + 1)) y.length:=(if_neg (ne_true_of_eq_false h1)).trans (if_neg (ne_true_of_eq_false hf))
   refine call_meets F.slot_str_split (typeIs_str _ _ _) F.entry_str_split (F.args_str_split_2 _ _) (meets_str_split_sep z y tk tk2 h1 hy hf (Nat.le_of_lt (Uv hz)) (by rw [<-es]; exact Nat.le_of_lt (D0 hn))) ?_
   show wants _ _ _ { s with toks:=_,heap:=s.heap.push { cls:=.type "list",data:=.seq (strsFrom s.toks (Builtin.Str.partsBetween z (Builtin.Str.occurrences z y 0 z.length (z.length + 1)) y.length)).toArray } }
   rw [strsFrom_eq]
   exact fin (numbered s.toks _) _ ((numbered_texts _ _).trans es.symm)
  ·have es:Txt.split z y=[z]:=(if_neg (ne_true_of_eq_false h1)).trans (if_pos hf)
   exact call_meets F.slot_str_split (typeIs_str _ _ _) F.entry_str_split (F.args_str_split_2 _ _) (meets_str_split_not_found z y tk tk2 h1 hy hf) (fin [(z,tk)] s.toks es.symm)
 ·have es:Txt.split z y=[z]:=if_pos h1
  exact call_meets F.slot_str_split (typeIs_str _ _ _) F.entry_str_split (F.args_str_split_2 _ _) (meets_str_split_cannot_occur z y tk tk2 h1) (fin [(z,tk)] s.toks es.symm)
end
noncomputable def RWT (K:Θf) (a:Addr):Prop:=∀H:Hp,SqT K H a [V.str L9,V.str Du]
theorem Wq (z:Str):inV (.str z) [V.str L9,V.str Du]=Eg z:=by
 have h:=El (x:=z) (l:=[L9,Du])
 unfold Eg
 rw [show ([V.str L9,V.str Du]:List V)=[L9,Du].map V.str from rfl,h,Bool.eq_iff_iff]
 simp
noncomputable def Asc (z:Str):Prop:=z.length<=1000/\∀c∈z.cps.toList,c < 128
noncomputable def Na:Sp:=fun vs H Q _=>∃z:Str,vs=[.str z]/\Asc z/\∀H',Same H H'->Q (.bl (W1 z)) H'
noncomputable def Gn (K:Θf):Sp:=fun vs H Q _=>∃(wp:Addr) (ws:List Str),vs=[.ref wp]/\SqL K H wp (ws.map V.str)/\ws.length<=300/\(∀w∈ws,Asc w)/\∀H',Same H H'->Q (.bl (R8 ws)) H'
noncomputable def Ac1 (K:Θf):Sp:=fun vs H Q _=>∃(wp:Addr) (ws:List Str),vs=[.ref wp]/\SqL K H wp (ws.map V.str)/\ws.length<=300/\(∀k w,ws[k]? = some w->Eg w=true->(∀v∈ws.take k,Eg v=false)->∀H',Same H H'->Q (vN k) H')/\((∀v∈ws,Eg v=false)->∀H',Same H H'->Q .non H')
noncomputable def Cc:Sp:=fun vs H Q _=>∃(t:Str) (ws:List Str),vs=[.str t]/\t.length<=290/\Txt.split t C8=columnsS :: ws/\ws.length<=100/\(∀w∈ws,Asc w)/\R8 ws=true/\∀(l:Addr) (H':Hp),Same H H'->H l=none->H' l=some (.lst (ws.map V.str))->Q (.ref l) H'
noncomputable def Ee (K:Θf):Sp:=fun vs H Q _=>∃(np:Addr) (nms:List Str) (r:RD),vs=[.ref np,.str (K3 nms r)]/\NAt K H np nms/\NM nms/\NW nms/\InR nms r/\r.2.2≠0/\∀(l:Addr) (H':Hp),Same H H'->H l=none->E4 H' l r.1 r.2.1 r.2.2->Q (.ref l) H'
noncomputable def Rz:Sp:=fun vs H Q _=>∃(nms:List Str) (rs:List RD),vs=[.str (Ch nms rs)]/\NM nms/\NW nms/\(∀r∈rs,InR nms r/\r.2.2≠0)/\rs.length<=12/\
 ∀(t nl rl:Addr) (ks:List Rl) (H':Hp),Same H H'->H nl=none->H rl=none->nl≠rl->ks.map Rl.d=rs->RulesAt H' nms.length ks->H' t=some (.tup [.ref nl,.ref rl])->H' nl=some (.lst (nms.map V.str))->H' rl=some (.lst (ks.map fun r=>V.ref r.r))->(∀r∈ks,r.r≠nl/\r.r≠rl)->Q (.ref t) H'
noncomputable def S1 (K:Θf):Sp:=fun vs H Q _=>∃(np:Addr) (nms:List Str) (r:Rl),vs=[.ref np,.ref r.r]/\NAt K H np nms/\NM nms/\E4 H r.r r.st r.x r.y/\InR nms r.d/\∀H',Same H H'->Q (.str (K3 nms r.d)) H'
noncomputable def Cd (K:Θf):Sp:=fun vs H Q _=>∃(np rl:Addr) (nms:List Str) (rs:List Rl),vs=[.ref np,.ref rl]/\H np=some (.lst (nms.map V.str))/\NM nms/\SqL K H rl (rs.map fun r=>V.ref r.r)/\RulesAt H nms.length rs/\rs.length<=12/\∀H',Same H H'->Q (.str (Ch nms (rs.map Rl.d))) H'
theorem Br {H:Hp} {nms:List Str} {rs:List Rl} (h:RulesAt H nms.length rs):∀r∈rs.map Rl.d,InR nms r:=fun r hr=>by
 obtain ⟨k,hk,rfl⟩:=Θn hr
 exact (h k hk).2
theorem Hq {xs:List V} {x:V}:W3 (x :: xs) (some 1) none=xs:=by
 unfold W3
 have e1:HT.sIx (x :: xs).length 0 (some 1)=1:=by unfold HT.sIx; simp
 have e2:HT.sIx (x :: xs).length (x :: xs).length none=(x :: xs).length:=rfl
 rw [e1,e2]
 simp
theorem Vs {A B:List V}:W3 (A++B) none (some (A.length:Int))=A:=by
 unfold W3
 have e1:HT.sIx (A++B).length 0 none=0:=rfl
 have e2:HT.sIx (A++B).length (A++B).length (some (A.length:Int))=A.length:=by rw [HT.sIx_nat,Zv_]; omega
 rw [e1,e2]
 simp
theorem Ho {A B:List V} {w:V}:W3 (A++w :: B) (some ((A.length + 1:Nat):Int)) none=B:=by
 unfold W3
 have e1:HT.sIx (A++w :: B).length 0 (some ((A.length + 1:Nat):Int))=A.length + 1:=by rw [HT.sIx_nat,Zv_,ZA]; omega
 have e2:HT.sIx (A++w :: B).length (A++w :: B).length none=(A++w :: B).length:=rfl
 rw [e1,e2,List.take_of_length_le (by rw [List.length_drop]; exact Zd_ _)]
 simp
noncomputable def Nb (K:Θf):Sp:=fun vs H Q _=>∃(sc:Addr) (ns:List Int) (m:Nat),vs=[.ref sc,vN m]/\SqL K H sc (ns.map V.int)/\1<=m/\m<=7/\
 ∀(rs:List Rl) (p:Addr) (H':Hp),RulesAt H' m rs->rs.length<=12->Same H H'->H p=none->H' p=some (.lst (rs.map fun r=>V.ref r.r))->Q (.ref p) H'
section
variable {prog:Program} {w:World} {A:Around} {E:Value->Shared->Prop} {s:Shared}
end
section
variable {X:Cx} {pins:List (Addr × Obj)} {σ:St} {H:Hp} {s:Shared}
end
section
variable {X:Cx} {K:Θf}
end
theorem Ny {a n:Nat} {g:TG} {tb:TS} {D:Ends} {σ:St} {H:Hp} (Pv:Nat->St->Hp->Prop) (h0:Pv 0 σ H)
  (hs:∀i σ H,i < n->Pv i σ H->g (vN (a + i)) σ H fun σ2 H2=>tb { D with nx:=Pv (i + 1),ct:=Pv (i + 1),bk:=D.nx } σ2 H2) (hd:∀σ H,Pv n σ H->D.nx σ H) :
  ∃W:Nat->Nat->St->Hp->Prop,(∃m,W 0 m σ H)/\∀i m σ H,W i m σ H->
   ((Itr (a:Int) n).stop i H/\D.nx σ H)\/((Itr (a:Int) n).go i H/\∃N:St->Hp->Prop,(∀σ' H',N σ' H'->∃m',m' < m/\W (i + 1) m' σ' H')/\∀x H',(Itr (a:Int) n).yld i H x H'->g x σ H' fun σ2 H2=>tb { D with nx:=N,ct:=N,bk:=D.nx } σ2 H2):=
 Hv (lo:=(a:Int)) Pv h0 (fun i σ H hi p=>by
  have e:(a:Int) + (i:Int)=((a + i:Nat):Int):=by omega
  rw [e]; exact hs i σ H hi p) hd
theorem Afb {n a:Nat}:((n:Int) - (a:Int)).toNat=n - a:=by omega
end L2
namespace Own
open PySem L2
noncomputable def top (i:Nat):Stmt:=PySem.Challenge.pw_splithouse_k86_rules_let_and_dropped.main.body.getD i (.Pass ⟨0,0,0,0⟩)
section
variable {P:Program} {w:World} {K:Θf} {mg:Str->Option Value} {base:Heap}
seal PySem.wpAny
noncomputable abbrev Aex:Stmt:=top 1
theorem Age:FnScope ["some","column"] ["some","column"] (A7 Aex):=⟨rfl,rfl,rfl,by decide +kernel,rfl,by decide +kernel,by decide +kernel⟩
theorem Ad5 {f:Addr} {fd:FuncData} (F:Fun K "has_column" "has_column" Aex f fd):FnOk P w K mg base CX0 1 f fd ["some","column"] Ac2:=by
 refine F.ok Age (fun vs H Q E h=>?_) (fun cdv A outer s H vs Q E hr h=>?_)
 ·obtain ⟨a,k,rfl,_⟩:=h
  rfl
 ·obtain ⟨a,k,rfl,q⟩:=h
  refine ⟨_,A4 (A9 (P3 op_eq (B0 op_and (B0 op_shr (pv 0) (pv 1)) A5) A5 (C3 _))),?_⟩
  refine ⟨_,rfl,_,rfl,_,_,rfl,rfl,(by omega),_,_,rfl,rfl,rfl,?_⟩
  show Q (V.bl (decide (V.int (Builtin.bitAnd ((a:Int) / 2 ^ (k:Int).toNat) 1)=V.int 1))) H
  rw [Ado]
  exact q
noncomputable abbrev Rk:Stmt:=top 2
theorem Ae0:FnScope ["some"] ["some"] (A7 Rk):=⟨rfl,rfl,rfl,by decide +kernel,rfl,by decide +kernel,by decide +kernel⟩
theorem Abi {f fH:Addr} {fd fdH:FuncData} (F:Fun K "columns_of" "columns_of" Rk f fd) (GH:FnOk P w K mg base CX0 1 fH fdH ["some","column"] Ac2) (mH:mg "has_column" = some (.ref fH)) (kH:Θk K fH) (bH:Binds K fdH ["some","column"] []) (zR:mg "range" = none):FnOk P w K mg base CX0 2 f fd ["some"] Gp:=by
 refine F.ok Ae0 (fun vs H Q E h=>?_) (fun cdv A outer s H vs Q E hr h=>?_)
 ·obtain ⟨a,rfl,_⟩:=h
  rfl
 ·obtain ⟨a,rfl,ha,q⟩:=h
  refine ⟨_,A4 (A9 (K0 (xs:=["column"]) (cs ["some"] (A7 Rk) rfl rfl (by decide +kernel)) rfl (N5 rfl zR (A0 (Aeg PySem.F.plainAttrs_int PySem.F.slot_int_bit_length PySem.F.type_int_bit_length Tn (pv 0)) A1))
   (fun _ _ _=>C5 (i:=0) (show (["column","some"]:List Str).Nodup by decide +kernel) rfl (Or.inl rfl)) (fun _ _ _=>R1 (K8 (A8 GH hr rfl mH kH bH .nil B2 (A0 (pv 1) (A0 (pv 0) A1))))) (fun _ _ _=>pv 0))),?_⟩
  refine ⟨_,rfl,rfl,(a:Int),rfl,rfl,_,rfl,(by omega),?_,?_⟩
  ·have:=Lh ha
   show ((Ff a:Nat):Int) < _
   omega
  ·refine Lw (lo:=0) (k:=((Ff a:Nat):Int).toNat) (n:=1) (fun i acc H'=>H' = H/\acc=((List.range i).filter (Jn a)).map vN) ?_ ⟨rfl,rfl⟩ (fun i acc H' hi h=>?_) (fun i acc H' hi h=>?_) (fun acc H' h=>?_)
   ·have:=Lh ha
    omega
   ·rw [h.2,Θl]
    exact Nat.le_trans (List.length_filter_le _ _) (by simp)
   ·obtain ⟨rfl,rfl⟩:=h
    refine ⟨rfl,_,rfl,_,rfl,a,i,?_,_,rfl,?_⟩
    ·show [vN a,V.int (0 + (i:Int))]=_
     rw [Int.zero_add]; rfl
    ·refine E8 (fun hc=>?_) (fun hc=>?_)
     ·refine ⟨_,rfl,rfl,?_⟩
      rw [Hu,if_pos hc,Zw_,Int.zero_add]
      rfl
     ·refine ⟨rfl,?_⟩
      rw [Hu,if_neg hc,List.append_nil]
   ·obtain ⟨rfl,rfl⟩:=h
    intro p hp
    exact q p hp
noncomputable abbrev Uq:Stmt:=top 3
theorem Agd:FnScope ["many"] ["many"] (A7 Uq):=⟨rfl,rfl,rfl,by decide +kernel,rfl,by decide +kernel,by decide +kernel⟩
theorem Ad0 {f:Addr} {fd:FuncData} (F:Fun K "all_of" "all_of" Uq f fd):FnOk P w K mg base CX0 1 f fd ["many"] Bx:=by
 refine F.ok Agd (fun vs H Q E h=>?_) (fun cdv A outer s H vs Q E hr h=>?_)
 ·obtain ⟨m,rfl,_⟩:=h
  rfl
 ·obtain ⟨m,rfl,hm,q⟩:=h
  refine ⟨_,A4 (A9 (B0 op_sub (B0 op_shl A5 (pv 0)) A5)),?_⟩
  refine ⟨_,rfl,_,_,rfl,rfl,Afo hm,_,_,rfl,rfl,?_⟩
  show Q (V.int (1 * 2 ^ (m:Int).toNat - 1)) H
  have pw:0 < 2 ^ m:=Nat.two_pow_pos m
  have e:(1:Int) * 2 ^ (m:Int).toNat - 1=((2 ^ m - 1:Nat):Int):=by rw [Ahb]; omega
  rw [e]
  exact q
noncomputable abbrev Kq:Stmt:=top 4
noncomputable def S4:Sp:=fun vs H Q _=>∃a b:Nat,vs=[.int (a:Int),.int (b:Int)]/\Q (.bl (decide (a&&&b=a))) H
theorem Zl:FnScope ["one","other"] ["one","other"] (A7 Kq):=⟨rfl,rfl,rfl,by decide +kernel,rfl,by decide +kernel,by decide +kernel⟩
theorem Ug {f:Addr} {fd:FuncData} (F:Fun K "is_within" "is_within" Kq f fd):FnOk P w K mg base CX0 1 f fd ["one","other"] S4:=by
 refine F.ok Zl (fun vs H Q E h=>?_) (fun cdv A outer s H vs Q E hr h=>?_)
 ·obtain ⟨a,b,rfl,_⟩:=h
  rfl
 ·obtain ⟨a,b,rfl,q⟩:=h
  refine ⟨_,A4 (A9 (P3 op_eq (B0 op_and (pv 0) (pv 1)) (pv 0) (C3 _))),?_⟩
  refine ⟨_,rfl,_,rfl,_,_,rfl,rfl,_,rfl,rfl,?_⟩
  show Q (V.bl (decide (V.int (Builtin.bitAnd (a:Int) (b:Int))=V.int (a:Int)))) H
  rw [Ac,Ei]
  have e:(((a&&&b:Nat):Int) == (a:Int))=decide (a&&&b=a):=by
   rw [Bool.eq_iff_iff,beq_iff_eq,decide_eq_true_iff]
   exact Int.ofNat_inj
  rw [e]
  exact q
noncomputable abbrev Rm:Stmt:=top 5
theorem scMore:FnScope ["sets","some","found","inner"] ["sets","some"] (A7 Rm):=⟨rfl,rfl,rfl,by decide +kernel,rfl,by decide +kernel,by decide +kernel⟩
theorem Abp {f fC:Addr} {fd fdC:FuncData} (F:Fun K "with_one_more" "with_one_more" Rm f fd) (GC:FnOk P w K mg base CX0 2 fC fdC ["some"] Gp) (mC:mg "columns_of" = some (.ref fC)) (kC:Θk K fC) (bC:Binds K fdC ["some"] []) (zsorted:mg "sorted" = none):FnOk P w K mg base CX0 3 f fd ["sets","some"] Kw:=by
 refine F.ok scMore (fun vs H Q E h=>?_) (fun cdv A outer s H vs Q E hr h=>?_)
 ·obtain ⟨p,a,i,rfl,_⟩:=h
  rfl
 ·obtain ⟨p,a,i,rfl,ha,hi,hp,q⟩:=h
  have nd:=scMore.nd
  have hr2:Room 2 _:=hr.mono (by decide)
  obtain ⟨c7,cb⟩:=Act a ha
  have lr:=Ex a ha i (by omega)
  refine ⟨_,(A2 (C0 (i:=2) nd rfl (Or.inl rfl) (E5 A1))
   (A2 (K7 PassesOwn.never rfl (E3 (K:=K) rfl (pv 0)) (C5 (i:=3) nd rfl (Or.inr rfl)) (A4 (O5 (I9 PySem.F.plainAttrs_list PySem.F.slot_list_extend PySem.F.type_list_extend Cy (pv 2) (A0 (K0 (xs:=["column"]) (cs ["sets","some","found","inner"] (A7 Rm) rfl rfl (by decide +kernel)) rfl (E3 (K:=K) rfl (A8 GC hr2 rfl mC kC bC .nil B2 (A0 (pv 1) A1))) (fun _ _ _=>C5 (i:=0) (show (["column","sets","some","found","inner"]:List Str).Nodup by decide +kernel) rfl (Or.inl rfl)) (fun _ _ _=>(R1 (B1 T5 (B0 P9 A5 (pv 0)) (pv 4) (C3 _)))) (fun _ _ _=>(B0 X4 (pv 4) (B0 P9 A5 (pv 0))))) A1)))))
   (A4 (A9 (D2 (Jh (K:=K) rfl) (by rfl) zsorted PyProof.Rows.boot_sorted (A0 (pv 2) A1)))))),?_⟩
  refine ⟨Zp_ _,fun fp hfp=>?_⟩
  have s0:=Same.new (o:=.lst []) hfp
  refine ⟨_,rfl,p,rfl,⟨_,SqL.of (s0 _ _ hp)⟩,M6 (K:=K) (xs:=(F1 a i).map vN) (fun j σ H'=>(∃v3:Option V,σ=[some (.ref p),some (vN a),some (.ref fp),v3])/\Same H H'/\H' fp=some (.lst ((X2 a ((F1 a i).take j)).map vN))) ⟨⟨_,rfl⟩,s0,A3⟩ (fun j σ H' _ h=>SqL.of (h.2.1 _ _ hp)) ?_ ?_⟩
  ·rintro j v σ H1 hv ⟨⟨v3,rfl⟩,s1,hf1⟩
   rw [Θg] at hv
   cases ex:(F1 a i)[j]? with
   | none=>rw [ex] at hv; cases hv
   | some x=>
    rw [ex] at hv
    obtain rfl:=(Θo hv).symm
    refine ⟨_,rfl,.inl ⟨rfl,_,SqL.of hf1⟩,_,rfl,a,rfl,by omega,fun cp hcp=>⟨cp,rfl,⟨_,SqL.of A3⟩,?_⟩⟩
    have sC:=Same.new (o:=.lst ((D4 a).map vN)) hcp
    have hcp2:(upd H1 cp (.lst ((D4 a).map vN))) cp=some (.lst ((D4 a).map vN)):=A3
    generalize upd H1 cp (.lst ((D4 a).map vN))=H2 at sC hcp2
    refine L6 (K:=K) (xs:=(D4 a).map vN) (fun k acc H3=>H3=H2/\acc=((((D4 a).take k).filter fun c=>decide (x < 2 ^ c)).map fun c=>x|||2 ^ c).map vN) (by rw [Θl]; omega) ⟨rfl,rfl⟩ (fun k acc H3 hk h=>?_) (fun k u acc H3 hu h=>?_) (fun acc H3 h=>?_)
    ·obtain ⟨rfl,rfl⟩:=h
     exact ⟨SqL.of hcp2,by rw [Θl,Θl]; exact Zo_ (List.length_filter_le _ _) (List.length_take_le _ _)⟩
    ·obtain ⟨rfl,rfl⟩:=h
     rw [Θg] at hu
     cases ec:(D4 a)[k]? with
     | none=>rw [ec] at hu; cases hu
     | some c=>
      rw [ec] at hu
      obtain rfl:=(Θo hu).symm
      have c1:c < 7:=Zj_ (List.all_eq_true.mp cb c (Θe ec))
      have et:((D4 a).take (k + 1)).filter (fun c=>decide (x < 2 ^ c))=((D4 a).take k).filter (fun c=>decide (x < 2 ^ c))++[c].filter (fun c=>decide (x < 2 ^ c)):=by rw [List.take_succ,ec,<-List.filter_append]; rfl
      refine ⟨rfl,_,rfl,c,rfl,rfl,by omega,_,rfl,2 ^ c,x,rfl,rfl,_,rfl,E8 (fun hb=>?_) (fun hb=>?_)⟩
      ·refine ⟨_,rfl,_,rfl,c,rfl,rfl,by omega,x,2 ^ c,rfl,rfl,rfl,?_⟩
       rw [et,List.filter_cons_of_pos (p:=fun c=>decide (x < 2 ^ c)) hb,Zw_,Zw_]; rfl
      ·refine ⟨rfl,?_⟩
       rw [et,List.filter_cons_of_neg (p:=fun c=>decide (x < 2 ^ c)) hb,List.filter_nil,List.append_nil]
    ·obtain ⟨rfl,rfl⟩:=h
     rw [Θl,List.take_length]
     intro ep hep
     have sE:=Same.new (o:=.lst (((((D4 a).filter fun c=>decide (x < 2 ^ c)).map fun c=>x|||2 ^ c)).map vN)) hep
     have hf3:=(sC.trans sE) _ _ hf1
     have lm:=Id a ha ((F1 a i).take j)
     have lt:((F1 a i).take j).length<=(F1 a i).length:=List.length_take_le' j _
     have lu:=Nk a x ha
     refine ⟨fp,ep,_,_,rfl,rfl,hf3,A3,Nat.le_of_lt (D0 ?_),?_⟩
     ·rw [Θl,Θl]
      have:(((D4 a).filter fun c=>decide (x < 2 ^ c)).map fun c=>x|||2 ^ c).length<=7:=lu
      omega
     ·refine ⟨⟨_,rfl⟩,(s1.trans (sC.trans sE)).own3 hfp,?_⟩
      rw [A3,Om ex,Zw_]
      rfl
  ·rintro σ H1 ⟨⟨v3,rfl⟩,s1,hf1⟩
   rw [Θl,List.take_length] at hf1
   have mi:=Ep (X2 a (F1 a i))
   have l64:((X2 a (F1 a i)).map fun (k:Nat)=>(k:Int)).length < 64:=by
    rw [Θl,(List.isPerm_iff.mp (Ie a ha i hi)).length_eq]
    have:=Ex a ha (i + 1) (by omega)
    omega
   refine ⟨_,rfl,fp,(X2 a (F1 a i)).map fun (k:Nat)=>(k:Int),rfl,SqL.of (by rw [mi]; exact hf1),l64,fun l ns' hl pm pw=>?_⟩
   rw [Aer ha hi pm pw,Ep]
   exact q l _ (s1.trans (Same.new hl)) (s1.free hl) A3
noncomputable abbrev Pn:Stmt:=top 6
theorem scSetsW:FnScope ["some","found","level"] ["some"] (A7 Pn):=⟨rfl,rfl,rfl,by decide +kernel,rfl,by decide +kernel,by decide +kernel⟩
theorem Yb {f fMO:Addr} {fd fdMO:FuncData} (F:Fun K "sets_within" "sets_within" Pn f fd) (GMO:FnOk P w K mg base CX0 3 fMO fdMO ["sets","some"] Kw) (mMO:mg "with_one_more" = some (.ref fMO)) (kMO:Θk K fMO) (bMO:Binds K fdMO ["sets","some"] []):FnOk P w K mg base CX0 7 f fd ["some"] Sc:=by
 refine F.ok scSetsW (fun vs H Q E h=>?_) (fun cdv A outer s H vs Q E hr h=>?_)
 ·obtain ⟨a,rfl,_⟩:=h
  rfl
 ·obtain ⟨a,rfl,ha,q⟩:=h
  have nd:=scSetsW.nd
  have hr3:Room 3 _:=hr.mono (by decide)
  refine ⟨_,(A2 (C0 (i:=1) nd rfl (Or.inl rfl) (E5 A1))
   (A2 (C0 (i:=2) nd rfl (Or.inl rfl) (E5 (A0 A5 A1)))
   (A2 (U9 PassesOwn.never (B1 (Ra (K:=K) rfl hr.units) (pv 2) (E5 A1) (C3 _)) (A2 (O5 (I9 PySem.F.plainAttrs_list PySem.F.slot_list_extend PySem.F.type_list_extend Cy (pv 1) (A0 (pv 2) A1)))
   (A4 (C0 (i:=2) nd rfl (Or.inl rfl) (A8 GMO hr3 rfl mMO kMO bMO .nil B2 (A0 (pv 2) (A0 (pv 0) A1)))))))
   (A4 (A9 (pv 1)))))),?_⟩
  refine ⟨Zp_ _,fun p hp=>?_⟩
  have s0:=Same.new (o:=.lst []) hp
  refine ⟨(by show 1<=sizeLine; decide),fun l0 hl0=>?_⟩
  have s1:=Same.new (o:=.lst [V.int 0]) hl0
  have hp1:(upd (upd H p (.lst [])) l0 (.lst [V.int 0])) p=some (.lst []):=s1 _ _ A3
  have hl1:(upd (upd H p (.lst [])) l0 (.lst [V.int 0])) l0=some (.lst ((F1 a 0).map vN)):=by rw [A3,Mv a ha]; rfl
  have n1:p≠l0:=C7 (show (upd H p (.lst [])) p=_ from A3) hl0
  refine ⟨fun n σ H'=>∃(i:Nat) (lp:Addr),σ=[some (vN a),some (.ref p),some (.ref lp)]/\n=8 - i/\i<=8/\Same H H'/\p≠lp/\H' p=some (.lst ((T9 a i).map vN))/\H' lp=some (.lst ((F1 a i).map vN)),⟨_,0,l0,rfl,rfl,by omega,s0.trans s1,n1,hp1,hl1⟩,?_⟩
  rintro n _ H1 ⟨i,lp,rfl,en,hi,s2,nn,hp2,hl2⟩
  have mi:=Ep (F1 a i)
  refine ⟨_,rfl,Zp_ _,fun np hnp=>?_⟩
  have sN:=Same.new (o:=.lst []) hnp
  refine ⟨lp,np,(F1 a i).map fun (k:Nat)=>(k:Int),[],rfl,rfl,SqL.of (by rw [mi]; exact sN _ _ hl2),SqL.of A3,_,rfl,?_⟩
  have hp3:=sN _ _ hp2
  have hl3:=sN _ _ hl2
  have s3:=s2.trans sN
  generalize upd H1 np (.lst [])=H3 at hp3 hl3 s3
  rw [if_pos rfl]
  refine E8 (fun hb=>?_) (fun hb=>?_)
  ·have hne:F1 a i≠[]:=fun z=>by
    rw [z] at hb
    cases hb
   have hi8:i < 8:=by
    rcases Nat.lt_or_ge i 8 with h | h
    ·exact h
    ·have:i=8:=by omega
     rw [this,Mu a ha] at hne
     exact absurd rfl hne
   have ld:=Wb a i ha (by omega)
   have lr:=Ex a ha i (by omega)
   refine ⟨_,fun _ _ h=>h,?_⟩
   refine ⟨_,rfl,.inl ⟨rfl,_,SqL.of hp3⟩,_,rfl,p,lp,_,_,rfl,rfl,hp3,hl3,Nat.le_of_lt (D0 (by rw [Θl,Θl]; omega)),?_⟩
   have hl4:(upd H3 p (.lst ((T9 a i).map vN++(F1 a i).map vN))) lp=some (.lst ((F1 a i).map vN)):=by rw [C6 nn.symm]; exact hl3
   have hp4:(upd H3 p (.lst ((T9 a i).map vN++(F1 a i).map vN))) p=some (.lst ((T9 a (i + 1)).map vN)):=by rw [A3,U0,Zw_]
   have s4:Same H (upd H3 p (.lst ((T9 a i).map vN++(F1 a i).map vN))):=s3.own3 hp
   generalize upd H3 p (.lst ((T9 a i).map vN++(F1 a i).map vN))=H4 at hl4 hp4 s4
   refine ⟨_,rfl,_,rfl,lp,a,i,rfl,ha,hi8,hl4,fun l H5 s5 hl50 hl5=>?_⟩
   exact ⟨8 - (i + 1),by omega,i + 1,l,rfl,rfl,by omega,s4.trans s5,C7 hp4 hl50,s5 _ _ hp4,hl5⟩
  ·have hz:F1 a i=[]:=by
    cases z:F1 a i with
    | nil=>rfl
    | cons x xs=>exact absurd (by rw [z]; rfl) hb
   rw [Rg a ha i (by omega) hz] at hp3
   exact ⟨_,rfl,q p _ s3 hp hp3⟩
end
end Own
namespace L2
open PySem PySem.Spec PyProof.Rows
noncomputable def Acs (m:Nat) (rs:List RD):Prop:=∀r∈rs,r.2.1 < 2 ^ m/\r.2.2 < 2 ^ m
section
variable {X:Cx} {K:Θf} {pins:List (Addr × Obj)} {σ:St} {H:Hp} {s:Shared}
end
section
variable {prog:Program} {w:World} {A:Around} {E:Value->Shared->Prop} {s:Shared}
theorem Ve {z TI TO a b p q:Addr} {i:Nat} {xs ys:Array Value} {x y u v:Value} {Q:Value->Shared->Prop} (D:ZipApart z TI TO a b p q)
  (hZ:IsZip s.heap z TI TO .none) (hI:IsPair s.heap TI (.ref a) (.ref b)) (hO:IsPair s.heap TO u v)
  (ha:s.heap.IsTupleIter a p i) (hb:s.heap.IsListIter b q i) (hp:s.heap.IsTuple p xs) (hq:s.heap.IsList q ys) (ex:xs[i]? = some x) (ey:ys[i]? = some y)
  (k:∀g,IsZip g z TI TO (rawInt s.heap.objs.size)->IsPair g TO x y->g.IsTupleIter a p (i + 1)->g.IsListIter b q (i + 1)->IsPair g s.heap.objs.size x y->
   (∀c o,c≠z->c≠TO->c≠a->c≠b->s.heap.get? c=some o->g.get? c=some o)->Q (.ref s.heap.objs.size) { s with heap:=g }) :
  wpAny (model prog w) A (Builtin.«zip.__next__» ⟨[.ref z],[]⟩) (fun fin s'=>∃r,fin = .done (.ret r)/\Q r s') E s:=by
 refine Za_ (m:=field (.ref z) 2) (wpAny_field hZ rfl (x:=.bool false) rfl ?_)
 refine Za_ (m:=field (.ref z) 3) (wpAny_field hZ rfl (x:=.ref TI) rfl (Za_ (wpAny_seqItems hI rfl ?_)))
 refine Za_ (m:=Builtin.SmallTypes.ownedTupleIsFree (.ref z)) ?_
 unfold Builtin.SmallTypes.ownedTupleIsFree
 refine Za_ (wpAny_field hZ rfl (x:=.none) rfl (Zb_ ?_))
 simp only [if_true]
 refine wpAny_bind (wpAny_rule (wpAny_bind (wpAny_field hZ rfl (x:=.ref TO) rfl (wpAny_bind (wpAny_setField_rec hZ (by simp) fun g1 z1 k1=>?_)))))
 replace z1:IsZip g1 z TI TO .ellipsis:=z1
 refine Za_ ?_
 simp only [List.zipIdx_cons,List.zipIdx_nil,List.forIn_cons,List.forIn_nil]
 refine Za_ (Za_ (wpAny_onRaise (Za_ (m:=Builtin.SmallTypes.nextOf (.ref a)) (Afr (ha.extBut k1.extBut D.i1z) (hp.extBut k1.extBut D.l1z) ex fun g2 a2 k2=>Zb_ ?_))))
 have o2:IsPair g2 TO u v:=k2.extBut _ _ D.TOi1 (k1.extBut _ _ D.TOz hO)
 refine Za_ (wpAny_seqItems o2 rfl (Za_ (wpAny_updateSeq_pair o2 fun g3 o3 k3=>Za_ (wpAny_letGo (Zb_ ?_)))))
 replace o3:IsPair g3 TO x v:=o3
 have b3:=((hb.extBut k1.extBut D.i2z).extBut k2.extBut D.i12.symm).extBut k3.extBut D.TOi2.symm
 have q3:=((hq.extBut k1.extBut D.l2z).extBut k2.extBut D.l2i1).extBut k3.extBut D.l2TO
 refine Za_ (Za_ (wpAny_onRaise (Za_ (m:=Builtin.SmallTypes.nextOf (.ref b)) (wpAny_nextOf_list_item b3 q3 ey fun g4 b4 k4=>Zb_ ?_))))
 have o4:IsPair g4 TO x v:=k4.extBut _ _ D.TOi2 o3
 refine Za_ (wpAny_seqItems o4 rfl (Za_ (wpAny_updateSeq_pair o4 fun g5 o5 k5=>Za_ (wpAny_letGo (Zb_ (Zb_ ?_))))))
 replace o5:IsPair g5 TO x y:=o5
 refine Za_ (wpAny_seqItems o5 rfl (Za_ (wpAny_newTuple ?_)))
 have sz:g5.objs.size=s.heap.objs.size:=by rw [k5.1,k4.1,k3.1,k2.1,k1.1]
 have z5:IsZip g5 z TI TO .ellipsis:=k5.extBut _ _ D.TOz.symm (k4.extBut _ _ D.i2z.symm (k3.extBut _ _ D.TOz.symm (k2.extBut _ _ D.i1z.symm z1)))
 have a5:=((a2.extBut k3.extBut D.TOi1.symm).extBut k4.extBut D.i12).extBut k5.extBut D.TOi1.symm
 have b5:=b4.extBut k5.extBut D.TOi2.symm
 have lz:z≠g5.objs.size:=Zs_ (Zn_ z5)
 refine Za_ (m:=Builtin.SmallTypes.ownedTupleHandOut (.ref z) (.ref g5.objs.size)) ?_
 unfold Builtin.SmallTypes.ownedTupleHandOut
 have z6:IsZip (g5.push { cls:=.type "tuple",data:=.seq #[x,y] }) z TI TO .ellipsis:=Zc_ _ z5
 refine wpAny_bind (wpAny_setField_rec z6 (by simp) fun g7 z7 k7=>?_)
 replace z7:IsZip g7 z TI TO (rawInt g5.objs.size):=z7
 refine wpAny_setField_rec z7 (by simp) fun g8 z8 k8=>?_
 replace z8:IsZip g8 z TI TO (rawInt g5.objs.size):=z8
 have up:∀c o,c≠z->g5.get? c=some o->g8.get? c=some o:=fun c o n e=>k8.extBut _ _ n (k7.extBut _ _ n (Zc_ _ e))
 have t8:IsPair g8 g5.objs.size x y:=k8.extBut _ _ lz.symm (k7.extBut _ _ lz.symm (Zm_ _ rfl))
 rw [sz] at z8 t8
 refine Zb_ ⟨.ref g5.objs.size,rfl,?_⟩
 rw [sz]
 refine k g8 z8 (up _ _ D.TOz o5) (a5.at fun o e=>up _ o D.i1z e) (b5.at fun o e=>up _ o D.i2z e) t8 fun c o n1 n2 n3 n4 e=>up c o n1 ?_
 exact k5.extBut _ _ n2 (k4.extBut _ _ n4 (k3.extBut _ _ n2 (k2.extBut _ _ n3 (k1.extBut _ _ n1 e))))
theorem Oo {z TI TO a b p q:Addr} {i:Nat} {xs ys:Array Value} {x y u v:Value} {Q:Option Value->Shared->Prop} (D:ZipApart z TI TO a b p q)
  (hZ:IsZip s.heap z TI TO .none) (hI:IsPair s.heap TI (.ref a) (.ref b)) (hO:IsPair s.heap TO u v)
  (ha:s.heap.IsTupleIter a p i) (hb:s.heap.IsListIter b q i) (hp:s.heap.IsTuple p xs) (hq:s.heap.IsList q ys) (ex:xs[i]? = some x) (ey:ys[i]? = some y)
  (k:∀g,IsZip g z TI TO (rawInt s.heap.objs.size)->IsPair g TO x y->g.IsTupleIter a p (i + 1)->g.IsListIter b q (i + 1)->IsPair g s.heap.objs.size x y->
   (∀c o,c≠z->c≠TO->c≠a->c≠b->s.heap.get? c=some o->g.get? c=some o)->Q (some (.ref s.heap.objs.size)) { s with heap:=g }):wpAny (model prog w) A (pyNext (.ref z)) Q E s:=by
 have ty:s.TypeIs (.ref z) "zip":=⟨_,hZ,rfl⟩
 unfold pyNext
 refine Za_ (wpAny_attempt (wpAny_callSpecial?_slot (name:=Str.ofString "__next__") ty F.slot_zip_next (wpAny_call_entry F.slot_zip_next ty F.entry_zip_next ?_ (F.args_zip_next_1 _))))
 exact Ve D hZ hI hO ha hb hp hq ex ey fun g c1 c2 c3 c4 c5 c6=>Zb_ (k g c1 c2 c3 c4 c5 c6)
noncomputable def zm1 (h:Heap) (p:Addr):Heap:=h.push { cls:=.type "tuple_iterator",data:=.fields #[.ref p,.int 0 0] }
noncomputable def zm2 (h:Heap) (p q:Addr):Heap:=(zm1 h p).push { cls:=.type "list_iterator",data:=.fields #[.ref q,.int 0 0] }
noncomputable def zm3 (h:Heap) (p q:Addr):Heap:=(zm2 h p q).push { cls:=.type "tuple",data:=.seq #[.ref h.objs.size,.ref (zm1 h p).objs.size] }
noncomputable def zm4 (h:Heap) (p q:Addr):Heap:=(zm3 h p q).push { cls:=.type "tuple",data:=.seq #[.none,.none] }
noncomputable def zm5 (h:Heap) (p q:Addr):Heap:=(zm4 h p q).push { cls:=.type "zip",data:=.fields #[.none,.bool false,.bool false,.ref (zm2 h p q).objs.size,.ref (zm3 h p q).objs.size] }
theorem Ag3 (p q:Addr) (xs ys:Array Value) :
  Meets (Builtin.«zip.__new__» ⟨[.type "zip",.ref p,.ref q],[]⟩) (fun _ R s=>s.heap.IsTuple p xs/\s.heap.IsList q ys/\R (.ok (.ret (.ref (zm4 s.heap p q).objs.size))) { s with heap:=zm5 s.heap p q }):=
 .of_wp fun prog w A R s h=>by
  obtain ⟨hp,g,d,tk,os⟩:=s
  obtain ⟨t1,t2,h⟩:=h
  have su:=sub_zip
  have T1:Heap.IsTuple (Shared.heap ⟨hp,g,d,tk,os⟩) p xs:=t1
  have T2:Heap.IsList (Shared.heap ⟨hp.push { cls:=.type "tuple_iterator",data:=.fields #[.ref p,.int 0 0] },g,d,tk,os⟩) q ys:=Heap.IsList.push t2 _
  wp_walk using wpAny_pyIter_tuple T1,wpAny_pyIter_list T2
  exact ⟨_,rfl,h⟩
theorem Afn {p q:Addr} {xs ys:Array Value} {Q:Value->Shared->Prop} (hp:s.heap.IsTuple p xs) (hq:s.heap.IsList q ys)
  (k:∀g z TI TO a b,s.heap.objs.size<=z->s.heap.objs.size<=TI->s.heap.objs.size<=TO->s.heap.objs.size<=a->s.heap.objs.size<=b->ZipApart z TI TO a b p q->IsZip g z TI TO .none->IsPair g TI (.ref a) (.ref b)->IsPair g TO .none .none->g.IsTupleIter a p 0->g.IsListIter b q 0->
   (∀c o,s.heap.get? c=some o->g.get? c=some o)->Q (.ref z) { s with heap:=g }):wpAny (model prog w) A (call (.type "zip") [.ref p,.ref q]) Q E s:=by
 refine callType_new F.called_zip (by decide) (F.typeCall_zip_2 _ _) (F.newCall_zip_2 _ _) (fun obj=>F.args_object_init_3 obj _ _) F.entry_zip_new (Ag3 p q xs ys) ⟨hp,hq,?_⟩
 have n1:(zm1 s.heap p).objs.size=s.heap.objs.size + 1:=Heap.size_push ..
 have n2:(zm2 s.heap p q).objs.size=s.heap.objs.size + 2:=(Heap.size_push ..).trans (by rw [n1])
 have n3:(zm3 s.heap p q).objs.size=s.heap.objs.size + 3:=(Heap.size_push ..).trans (by rw [n2])
 have n4:(zm4 s.heap p q).objs.size=s.heap.objs.size + 4:=(Heap.size_push ..).trans (by rw [n3])
 have u4:∀c o,(zm4 s.heap p q).get? c=some o->(zm5 s.heap p q).get? c=some o:=fun c o e=>Zc_ _ e
 have u3:∀c o,(zm3 s.heap p q).get? c=some o->(zm5 s.heap p q).get? c=some o:=fun c o e=>u4 c o (Zc_ _ e)
 have u2:∀c o,(zm2 s.heap p q).get? c=some o->(zm5 s.heap p q).get? c=some o:=fun c o e=>u3 c o (Zc_ _ e)
 have u1:∀c o,(zm1 s.heap p).get? c=some o->(zm5 s.heap p q).get? c=some o:=fun c o e=>u2 c o (Zc_ _ e)
 have f5:(zm5 s.heap p q).get? (zm4 s.heap p q).objs.size=some { cls:=.type "zip",data:=.fields #[.none,.bool false,.bool false,.ref (zm2 s.heap p q).objs.size,.ref (zm3 s.heap p q).objs.size] }:=Zm_ _ rfl
 have f4:(zm5 s.heap p q).get? (zm3 s.heap p q).objs.size=some { cls:=.type "tuple",data:=.seq #[.none,.none] }:=u4 _ _ (Zm_ _ rfl)
 have f3:(zm5 s.heap p q).get? (zm2 s.heap p q).objs.size=some { cls:=.type "tuple",data:=.seq #[.ref s.heap.objs.size,.ref (zm1 s.heap p).objs.size] }:=u3 _ _ (Zm_ _ rfl)
 have f2:(zm5 s.heap p q).get? (zm1 s.heap p).objs.size=some { cls:=.type "list_iterator",data:=.fields #[.ref q,.int 0 0] }:=u2 _ _ (Zm_ _ rfl)
 have f1:(zm5 s.heap p q).get? s.heap.objs.size=some { cls:=.type "tuple_iterator",data:=.fields #[.ref p,.int 0 0] }:=u1 _ _ (Zm_ _ rfl)
 have lp:p < s.heap.objs.size:=by obtain ⟨_,e,_⟩:=hp; exact Zn_ e
 have lq:q < s.heap.objs.size:=by obtain ⟨_,e,_⟩:=hq; exact Zn_ e
 rw [n2,n3,n4] at f5
 rw [n1,n2] at f3
 rw [n3] at f4
 rw [n1] at f2
 rw [n4]
 exact ⟨⟨_,f5,rfl⟩,k _ _ _ _ _ _ (by omega) (by omega) (by omega) (by omega) (by omega) (zipApart_new lp lq) f5 f3 f4 ⟨_,f1,rfl,rfl⟩ ⟨_,f2,rfl,rfl⟩ fun c o e=>u1 c o (Zc_ _ e)⟩
end
section
variable {X:Cx} {pins:List (Addr × Obj)} {σ:St} {H:Hp} {s:Shared}
noncomputable def Aao (K:Θf) (p q:Addr):It:=
 ⟨fun i H=>∃xs ys x y,SqT K H p xs/\SqL K H q ys/\xs[i]? = some x/\ys[i]? = some y,
  fun i H v H'=>∃t x y,v = .ref t/\H t=none/\(∀xs,SqT K H p xs->xs[i]? = some x)/\(∀ys,SqL K H q ys->ys[i]? = some y)/\H' = upd H t (.tup [x,y]),
  fun i H=>∃xs ys,SqT K H p xs/\SqL K H q ys/\xs.length<=i⟩
noncomputable def tnM (z TI TO a b p q:Addr) (i:Nat) (h:Heap):Prop:=IsZip h z TI TO .none/\IsPair h TI (.ref a) (.ref b)/\(∃u v,IsPair h TO u v)/\h.IsTupleIter a p i/\h.IsListIter b q i
theorem Vd {P:Program} {w:World} {K:Θf} {es:List Expr} {n:Nat} {tp:Pos} {z TI TO a b p q:Addr} (D:ZipApart z TI TO a b p q):Turn P w K (.Tuple es n tp) (Aao K p q) [z,TI,TO,a,b] z (tnM z TI TO a b p q) where
 mem:=by simp
 obj:=fun i h st c hc=>by
  obtain ⟨hZ,hI,⟨u,v,hO⟩,⟨oa,ea,_,da⟩,⟨ob,eb,_,db⟩⟩:=st
  simp only [List.mem_cons,List.not_mem_nil,or_false] at hc
  rcases hc with rfl | rfl | rfl | rfl | rfl
  ·exact ⟨_,hZ,fun v r=>by cases r⟩
  ·exact ⟨_,hI,fun v r=>by cases r⟩
  ·exact ⟨_,hO,fun v r=>by cases r⟩
  ·exact ⟨_,ea,fun v r=>by rw [da] at r; cases r⟩
  ·exact ⟨_,eb,fun v r=>by rw [db] at r; cases r⟩
 keep:=fun i h h' st k=>by
  obtain ⟨hZ,hI,⟨u,v,hO⟩,ha,hb⟩:=st
  exact ⟨k z (by simp) _ hZ,k TI (by simp) _ hI,⟨u,v,k TO (by simp) _ hO⟩,ha.at fun o e=>k a (by simp) o e,hb.at fun o e=>k b (by simp) o e⟩
 item:=by
  intro X hP hw hK hc i pins s σ H E I hf st hg
  subst hP hw hK
  obtain ⟨xs,ys,x,y,hx,hy,ex,ey⟩:=hg
  obtain ⟨hZ,hI,⟨u,v,hO⟩,ha,hb⟩:=st
  obtain ⟨i1,r1,t1,_⟩:=I.tuple hx
  obtain ⟨i2,r2,t2,_⟩:=I.list hy
  obtain ⟨x',ex',rx⟩:=r1.get ex
  obtain ⟨y',ey',ry⟩:=r2.get ey
  refine Oo D hZ hI hO ha hb (show s.heap.IsTuple p i1.toArray from t1) t2.isList (x:=x') (y:=y') (by simpa using ex') (by simpa using ey') fun g c1 c2 c3 c4 c5 c6=>⟨_,rfl,?_⟩
  refine wpAny_letOwnedTupleGo_zip c1 fun g' z' k'=>?_
  have nT:H s.heap.objs.size=none:=I.fresh
  have lz:s.heap.objs.size≠z:=Nat.ne_of_gt (Zn_ hZ)
  have IA:Inv X pins σ (upd H s.heap.objs.size (.tup [x,y])) { s with heap:=s.heap.push { cls:=.type "tuple",data:=.seq #[x',y'] } }:=
   I.laid (t':=s.toks) (fun c o e=>Zc_ _ e) (Zd_ _) (show ObjOk X.prog X.w _ _ _ (.tup [x,y]) from ⟨by show 2<=sizeLine; decide,[x',y'],.cons rx (.cons ry .nil),⟨_,Zm_ _ rfl,rfl,_,rfl⟩⟩)
  have fp:∀c∈[z,TI,TO,a,b],FpOk X pins (upd H s.heap.objs.size (.tup [x,y])) c:=fun c hc'=>by
   obtain ⟨f0,f1,f2,f3,f4,f5⟩:=hf c hc'
   refine ⟨?_,f1,f2,f3,f4,f5⟩
   rw [C6]
   ·exact f0
   ·have lt:c < s.heap.objs.size:=by
     simp only [List.mem_cons,List.not_mem_nil,or_false] at hc'
     rcases hc' with rfl | rfl | rfl | rfl | rfl
     ·exact Zn_ hZ
     ·exact Zn_ hI
     ·exact Zn_ hO
     ·obtain ⟨_,e,_⟩:=ha; exact Zn_ e
     ·obtain ⟨_,e,_⟩:=hb; exact Zn_ e
    exact Zs_ lt
  have IB:Inv X pins σ (upd H s.heap.objs.size (.tup [x,y])) { s with heap:=g' }:=by
   refine IA.turnedL (t':=s.toks) (h':=g') (fun c o hc' e=>?_) fp
   simp only [List.mem_cons,List.not_mem_nil,or_false,not_or] at hc'
   refine k'.extBut _ _ hc'.1 ?_
   by_cases hcT:c=s.heap.objs.size
   ·subst hcT
    have e1:(s.heap.push { cls:=.type "tuple",data:=.seq #[x',y'] }).get? s.heap.objs.size=some { cls:=.type "tuple",data:=.seq #[x',y'] }:=Zm_ _ rfl
    have e2:=e1.symm.trans e
    rw [<-Θo e2]
    exact c5
   ·exact c6 c o hc'.1 hc'.2.2.1 hc'.2.2.2.1 hc'.2.2.2.2 (by
     have e1:(s.heap.push { cls:=.type "tuple",data:=.seq #[x',y'] }).get? c=s.heap.get? c:=Heap.get?_push_ne _ _ _ hcT
     rw [<-e1]; exact e)
  refine ⟨.ref s.heap.objs.size,_,IB,rfl,⟨_,x,y,rfl,nT,fun zs hz=>by rw [I.tuple_inj hz hx]; exact ex,fun zs hz=>by rw [I.list_inj hz hy]; exact ey,rfl⟩,⟨z',k'.extBut _ _ D.TIz (c6 _ _ D.TIz D.TITO D.TIi1 D.TIi2 hI),⟨_,_,k'.extBut _ _ D.TOz c2⟩,c3.extBut k'.extBut D.i1z,c4.extBut k'.extBut D.i2z⟩,fun c hc'=>(fp c hc').1⟩
 done:=by
  intro X hP hw hK hc i pins s σ H E I hf st hg
  subst hP hw hK
  obtain ⟨xs,ys,hx,hy,hl⟩:=hg
  obtain ⟨hZ,hI,_,ha,hb⟩:=st
  obtain ⟨i1,r1,t1,_⟩:=I.tuple hx
  have len:=r1.length
  refine Tq (I.ok.hd hc) D hZ hI ha (show s.heap.IsTuple p i1.toArray from t1) (by simp; omega) fun g hk=>⟨rfl,?_⟩
  refine I.turnedL (t':=s.toks) (h':=g) (ch:=[z,TI,TO,a,b]) (fun c o hc' e=>?_) hf
  simp only [List.mem_cons,List.not_mem_nil,or_false,not_or] at hc'
  exact hk c o hc'.1 hc'.2.2.2.1 e
 self:=fun _ _ _ _ _ st h=>wpAny_pyIter_zip st.1 h
noncomputable def Af1 (K:Θf) (ta:TA):TI:=fun σ H R=>ta σ H fun vs H1=>∃(p q:Addr) (xs ys:List V),vs=[.ref p,.ref q]/\SqT K H1 p xs/\SqL K H1 q ys/\R (Aao K p q) H1
theorem Es {K:Θf} {es:List Expr} {n:Nat} {tp:Pos} {e1 e2:Expr} {ta:TA} {np pos:Pos} (hK:X.K=K) (hg:Gl X "zip") (hm:X.mg "zip" = none) (ha:PA X [e1,e2] ta)
  (hs:starEach [e1,e2] X.env=[(false,eval e1 X.env),(false,eval e2 X.env)]:=by rfl) (hs2:starEach [e2] X.env=[(false,eval e2 X.env)]:=by rfl) :
  PI X (.Tuple es n tp) (.Call (.Name "zip" np) [e1,e2] [] pos) (Af1 K ta):=by
 subst hK
 intro pins s σ H R I h
 refine Call_ (Al I hg hm boot_zip (PyProof.Rows.callWith_type1 (thn (ha pos pins s σ H _ I h) fun us s1 ⟨vs,H1,I1,r1,q1⟩=>?_) (by rw [hs,hs2]) (by rw [hs2]; rfl)))
 obtain ⟨p,q,xs,ys,rfl,hp,hq,r⟩:=q1
 obtain ⟨u1,u2,rfl,ru1,ru2⟩:=Ac6 r1
 cases ru1; cases ru2
 obtain ⟨i1,v1,t1,_⟩:=I1.tuple hp
 obtain ⟨i2,v2,t2,_⟩:=I1.list hq
 refine Afn (show s1.heap.IsTuple p i1.toArray from t1) t2.isList fun g z TI TO a b l1 l2 l3 l4 l5 D hZ hI hO ha' hb' hk=>?_
 refine wpAny_pyIter_zip hZ ⟨z,[z,TI,TO,a,b],tnM z TI TO a b p q,Aao X.K p q,H1,rfl,I1.kept (t':=s1.toks) hk,Vd D,⟨hZ,hI,⟨_,_,hO⟩,ha',hb'⟩,fun c hc=>?_,r⟩
 have lc:s1.heap.objs.size<=c:=by
  simp only [List.mem_cons,List.not_mem_nil,or_false] at hc
  rcases hc with rfl | rfl | rfl | rfl | rfl <;> assumption
 exact I1.fpOk lc (I1.hok.fresh lc)
end
noncomputable def Q3 (k:Nat):Str:=Str.ofString (toString (k:Int))
noncomputable def Acz:Str:=⟨#[59,32]⟩
noncomputable def Kr (nms:List Str) (ss:List Nat):Str:=Str.join C8 (ss.map (D3 nms))
noncomputable def Ade (nms:List Str) (ks:List RD):Str:=if ks=[] then Str.ofString "none" else Str.join Acz (ks.map (K3 nms))
noncomputable def Aad (l:List (Nat × Nat)):Str:=Str.join C8 (Str.ofString "yes" :: l.map fun p=>Q3 p.1)
noncomputable def Wd (nms:List Str) (ds:List RD) (st:Bool) (x y:Nat):Str:=
 match (unfF nms.length ds x).bs.find? (usB (st,x,y)) with
 | none=>Aad (unfF nms.length ds x).st
 | some b=>Str.ofString "no "++D3 nms b
noncomputable def Aaf (nms:List Str) (good bad:Str):Option Nat->Str
 | none=>good
 | some b=>bad++Str.ofString " "++D3 nms b
noncomputable def Adf (nms:List Str) (ds:List RD) (x y:Nat):Str:=Aaf nms (Str.ofString "safe") (Str.ofString "unsafe") ((unfF nms.length ds (x&&&y)).bs.find? (Z7 x y))
noncomputable def Lu (y:Nat) (R:List (Nat × Nat) × Nat):Option Nat:=if y&&&R.2=y then none else some R.2
noncomputable def Z8 (n:Nat) (ds:List RD):Tr:=trP n ds (2 ^ n - 1)
inductive Ask
 | show
 | fol (st:Bool) (x y:Nat)
 | keys
 | cover
 | cut (x y:Nat)
 | tree
 | parts
 | part (x y:Nat)
noncomputable def Sn (nms:List Str) (ds:List RD):Ask->Option Str
 | .show=>some (Ch nms ds)
 | .fol st x y=>some (Wd nms ds st x y)
 | .keys=>some (Kr nms (N7 nms.length ds (F6 nms.length)))
 | .cover=>some (Ade nms (L1 nms.length ds))
 | .cut x y=>some (Adf nms ds x y)
 | .parts=>if 10 < (Q5 nms.length ds).length then none else some (Kr nms (Q5 nms.length ds))
 | .tree=>if 60 < (Z8 nms.length ds).cnt then none else some (Kr nms (Z8 nms.length ds).lvs)
 | .part x y=>if 60 < (Z8 nms.length ds).cnt then none else if 10 < (Z8 nms.length ds).lvs.length then none else some (Aaf nms (Str.ofString "yes") (Str.ofString "no") (Lu y (X7 nms.length ds (Z8 nms.length ds).lvs 128 x)))
noncomputable def O2 (nms:List Str):Ask->List Str
 | .show=>[Str.ofString "show"]
 | .fol st x y=>[Str.ofString "follows",D3 nms x,D6 st,D3 nms y]
 | .keys=>[Str.ofString "keys"]
 | .cover=>[Str.ofString "cover"]
 | .cut x y=>[Str.ofString "cut",D3 nms x,D3 nms y]
 | .tree=>[Str.ofString "tree"]
 | .parts=>[Str.ofString "parts"]
 | .part x y=>[Str.ofString "part",D3 nms x,L9,D3 nms y]
noncomputable def Sq:Ask->List Nat
 | .fol _ x y=>[x,y]
 | .cut x y=>[x,y]
 | .part x y=>[x,y]
 | _=>[]
noncomputable def W5 (n:Nat):Ask->Prop
 | .fol _ x y=>x < 2 ^ n/\y < 2 ^ n
 | .cut x y=>x < 2 ^ n/\y < 2 ^ n/\x|||y=2 ^ n - 1
 | .part x y=>x < 2 ^ n/\y < 2 ^ n
 | _=>True
theorem Wv {sep:Str} {ys:List Str} {d e:Nat} (h:∀y∈ys,y.length<=d) (hs:sep.length=e) (hb:ys.length * d + e * ys.length<=100000):JoinOk sep ys=true:=by
 have h2:=Dl h
 unfold JoinOk
 rw [Bool.not_eq_true']
 show decide (_ > sizeLine)=false
 rw [StrLaws.joinTotal,decide_eq_false]
 have:=sizeLine_eq
 rw [hs]
 rw [Nat.mul_comm e] at hb
 omega
theorem Qx {k:Nat} (h:k < 1000):(Q3 k).length<=4:=by
 have:∀k,k < 1000->(Q3 k).length<=4:=by decide +kernel
 exact this k h
noncomputable def Nf (K:Θf):Sp:=fun vs H Q _=>∃(np sl:Addr) (nms:List Str) (ss:List Nat),vs=[.ref np,.ref sl]/\NAt K H np nms/\NM nms/\SqL K H sl (ss.map vN)/\ss.length<=200/\(∀s∈ss,s < 2 ^ nms.length)/\∀H',Same H H'->Q (.str (Kr nms ss)) H'
noncomputable def Iw (K:Θf):Sp:=fun vs H Q _=>∃(np rl:Addr) (nms:List Str) (rs:List Rl),vs=[.ref np,.ref rl]/\NAt K H np nms/\NM nms/\SqL K H rl (rs.map fun r=>V.ref r.r)/\RulesAt H nms.length rs/\rs.length<=12/\∀H',Same H H'->Q (.str (Ade nms (L1 nms.length (rs.map Rl.d)))) H'
noncomputable def Agw (H:Hp) (t:Addr) (o:Option Nat) (l:List (Nat × Nat)):Prop:=
 (∃b,o=some b/\H t=some (.tup [.str "no",vN b]))\/
 (o=none/\∃(q:Addr) (sw:List SW),H t=some (.tup [.str "yes",.ref q])/\H q=some (.lst (sw.map fun w=>V.ref w.1))/\StepsAt H sw/\sw.map (·.2)=l/\sw.length<=300)
noncomputable def Aef (nms:List Str) (o:Option Nat) (l:List (Nat × Nat)):Str:=
 match o with
 | none=>Aad l
 | some b=>Str.ofString "no "++D3 nms b
noncomputable def Rw (K:Θf):Sp:=fun vs H Q _=>∃(np t:Addr) (nms:List Str) (o:Option Nat) (l:List (Nat × Nat)),vs=[.ref np,.ref t]/\NAt K H np nms/\NM nms/\Agw H t o l/\(∀b,o=some b->b < 2 ^ nms.length)/\(∀p∈l,p.1 < 1000)/\∀H',Same H H'->Q (.str (Aef nms o l)) H'
noncomputable def Ac9 (H:Hp) (t:Addr) (good bad:Str) (o:Option Nat):Prop:=
 (o=none/\∃v,H t=some (.tup [.str good,v]))\/∃b,o=some b/\H t=some (.tup [.str bad,vN b])
noncomputable def Sd (K:Θf):Sp:=fun vs H Q _=>∃(np t:Addr) (nms:List Str) (good bad:Str) (o:Option Nat),vs=[.ref np,.ref t,.str good]/\NAt K H np nms/\NM nms/\Ac9 H t good bad o/\good≠bad/\bad.length<=10/\(∀b,o=some b->b < 2 ^ nms.length)/\∀H',Same H H'->Q (.str (Aaf nms good bad o)) H'
noncomputable def Z2 (K:Θf):Sp:=fun vs H Q _=>∃(z:Str),vs=[.str z]/\z.length<=290/\∀(l:Addr) (H':Hp),Same H H'->H l=none->H' l=some (.lst ((Txt.split z C8).map V.str))->Q (.ref l) H'
noncomputable def My (K:Θf) (CT:Addr):Sp:=fun vs H Q E=>∃(np rl wp sl:Addr) (nms:List Str) (rs:List Rl) (a:Ask),vs=[.ref np,.ref rl,.ref wp,.ref sl]/\H np=some (.lst (nms.map V.str))/\NM nms/\SqL K H rl (rs.map fun r=>V.ref r.r)/\RulesAt H nms.length rs/\rs.length<=12/\
 SqL K H wp ((O2 nms a).map V.str)/\SqL K H sl ((Sq a).map vN)/\W5 nms.length a/\(∀t,Sn nms (rs.map Rl.d) a=some t->∀H',Same H H'->Q (.str t) H')/\(Sn nms (rs.map Rl.d) a=none->∀H',Same H H'->E (.ref CT) none H')
section
variable {X:Cx} {K:Θf}
end
theorem wi_has {a b:Nat}:a&&&b=a↔∀k,D5 a k->D5 b k:=by
 constructor
 ·intro e k h
  rw [<-e] at h
  exact ((M0 a b k).mp h).2
 ·exact Fb
theorem Gy:∀(r k:List Nat) (q:Nat),q∈P4 k r->q∈k\/q∈r
 | [],k,q,h=>by rw [P4] at h; exact .inl h
 | p :: r,k,q,h=>by
  by_cases z:inB p (k++r)=true
  ·rw [Ni z] at h
   exact (Gy r k q h).imp id fun w=>Θd _ w
  ·rw [Sj z] at h
   rcases Gy r (k++[p]) q h with w | w
   ·rcases Θa w with w | w
    ·exact .inl w
    ·exact .inr (by rw [Θs w]; exact Θc)
   ·exact .inr (Θd _ w)
section
variable {m:Nat} {rs:List RD}
structure Cov (m:Nat) (rs:List RD):Prop where
 m7:m<=7
 rules:Acs m rs
noncomputable def Bm (rs:List RD):List RD:=rs.filter fun r=>r.1
theorem Aee {r:RD} (h:r∈Bm rs):r.1=true:=(List.mem_filter.mp h).2
theorem Da {r:RD} (h:r∈Bm rs):r∈rs:=(List.mem_filter.mp h).1
theorem Cov.ones (C:Cov m rs):Ones (L1 m (Bm rs)):=Nv C.m7 (fun r hr=>(C.rules r (Da hr)).1) (fun r hr=>(C.rules r (Da hr)).2) fun r hr=>Aee hr
theorem Cov.crules (C:Cov m rs):Acs m (L1 m (Bm rs)):=fun r hr=>by
 obtain ⟨ls,LP,NP⟩:=Ql (rs:=Bm rs) C.m7 fun r hr=>(C.rules r (Da hr)).1
 obtain ⟨c,hc,e1,_⟩:=(Ae C.m7 (fun r hr=>(C.rules r (Da hr)).2) LP NP hr).2 (C.ones.st r hr)
 refine ⟨?_,by rw [e1]; exact Nat.pow_lt_pow_right (by decide) hc⟩
 have hm:=NP.sub.subset hr
 obtain ⟨i,hi⟩:=List.getElem?_of_mem hm
 have hi':i < (I8 D4 (Bm rs)).length:=by have:=(Ze_.mp hi).1; rw [LP.len] at this; exact this
 obtain ⟨_,_,e3,_,_⟩:=LP.each i r (I8 D4 (Bm rs))[i] hi (Θh hi')
 have hs:(I8 D4 (Bm rs))[i].2.1 < 2 ^ m:=by
  have hq:=List.getElem_mem hi'
  generalize (I8 D4 (Bm rs))[i]=w at hq
  unfold I8 at hq
  rcases Θa hq with hq | hq
  ·obtain ⟨r',h1,h2⟩:=List.mem_flatMap.mp hq
   unfold Z0 at h2
   obtain ⟨c',_,rfl⟩:=Θn h2
   exact (C.rules r' (Da (List.mem_filter.mp h1).1)).1
  ·exact (C.rules w (Da (List.mem_filter.mp hq).1)).1
 have e:=wi_has.mpr e3
 rw [<-e]
 exact Nat.lt_of_le_of_lt Nat.and_le_right hs
theorem Af7 {c:List RD} {l:Nat} (hl:l < 2 ^ m) (hc:∀r∈c,r.2.2 < 2 ^ m):ptN c l < 2 ^ m:=by
 revert hc
 refine Bw (P:=fun c=>(∀r∈c,r.2.2 < 2 ^ m)->ptN c l < 2 ^ m) (fun _=>hl) (fun c r ih h=>?_) c
 rw [Jz]
 have h0:=ih fun q hq=>h q (Zt_ _ hq)
 by_cases e:r.2.1=l
 ·rw [if_pos e]; exact Nat.or_lt_two_pow h0 (h r (Zh_ _ Θc))
 ·rw [if_neg e]; exact h0
theorem Cov.by_lt (C:Cov m rs):∀p∈byF (L1 m (Bm rs)),p < 2 ^ m:=fun p hp=>by
 obtain ⟨l,hl,rfl⟩:=Θn hp
 obtain ⟨r,hr,rfl⟩:=(Ib _ l).mp hl
 exact Af7 (C.crules r hr).1 fun q hq=>(C.crules q hq).2
theorem Cov.key_lt (C:Cov m rs):∀y∈N7 m (Bm rs) (F6 m),y < 2 ^ m/\Ay m (Bm rs) y:=fun y hy=>by
 obtain ⟨h1,h2,_⟩:=(Ma C.m7).mp hy
 exact ⟨h1,h2⟩
noncomputable def Afm (m:Nat) (rs:List RD):List Nat:=kyF (byF (L1 m (Bm rs))) (N7 m (Bm rs) (F6 m))
theorem Cov.all_lt (C:Cov m rs):∀p∈Afm m rs,p < 2 ^ m:=fun p hp=>by
 unfold Afm kyF at hp
 split at hp
 ·exact C.by_lt p hp
 ·rcases Θa hp with hp | hp
  ·exact C.by_lt p hp
  ·exact (C.key_lt p (List.mem_of_mem_take hp)).1
theorem Cov.lt (C:Cov m rs):InM m (Q5 m rs):=fun p hp=>by
 rcases Gy _ _ p hp with z | z
 ·exact absurd z Zi_
 ·exact C.all_lt p z
end
theorem Ri {rs:List RD} {s t:US} (R:Run rs s t):(∀p∈s.st,p.1 < rs.length)->∀p∈t.st,p.1 < rs.length:=by
 induction R with
 | done _=>exact fun h=>h
 | @step s t u us e _ ih=>
  intro h
  have hu:u∈L5 rs s.bs rs.length:=by rw [e]; exact Θc ..
  refine ih fun p hp=>?_
  rcases Θa hp with hp | hp
  ·exact h p hp
  ·rw [Θs hp]
   exact (U6 hu).1
theorem Yv {rs:List RD} {m x b:Nat} {s:US} (hx:x < 2 ^ m) (R:Run rs ⟨x,E6 m x,[]⟩ s) {f:Nat->Bool} (h:s.bs.find? f=some b):b < 2 ^ m:=
 (R.good (Good.begin hx)).1.lt (List.mem_of_find?_eq_some h)
theorem Wz {m:Nat} {rs:List RD} (m7:m<=7):(N7 m rs (F6 m)).length<=200:=by
 have h1:=Cr m rs (F6 m)
 have h2:=(X9 m (by omega)).1
 have h3:=W4 m7
 omega
theorem Aba {m:Nat} {rs:List RD} (m7:m<=7):∀s∈N7 m rs (F6 m),s < 2 ^ m:=fun s hs=>((Ma m7).mp hs).1
theorem Qw:∀t:Tr,1<=t.lvs.length
 | .whole _=>Zd_ 1
 | .cut _ _ _ l r=>by
  have:=Qw l
  unfold Tr.lvs
  rw [Zv_]
  omega
theorem Wm {H:Hp} {y t:Nat} {R:List (Nat × Nat) × Nat} (h:Acr H y R t):Ac9 H t (Str.ofString "yes") (Str.ofString "no") (Lu y R):=by
 unfold Lu
 rcases h with ⟨e,q,sw,_,_,_,_,ht⟩ | ⟨e,ht⟩
 ·rw [if_pos e]
  exact .inl ⟨rfl,_,ht⟩
 ·rw [if_neg e]
  exact .inr ⟨_,rfl,ht⟩
theorem Wl {m x y b:Nat} {rs:List RD} {ps:List Nat} (m7:m<=7) (hx:x < 2 ^ m) (h:Lu y (X7 m rs ps 128 x)=some b):b < 2 ^ m:=by
 have p7:=W4 m7
 unfold Lu at h
 split at h
 ·cases h
 ·cases h
  exact (Mw 128 x hx (by omega)).1
theorem Aaz {H:Hp} {x y t:Nat} {s:US} (h:Afh H x y s t):Ac9 H t (Str.ofString "safe") (Str.ofString "unsafe") (s.bs.find? (Z7 x y)):=by
 rcases h with ⟨b,e,ht⟩ | ⟨e,q,sw,_,_,_,_,ht⟩
 ·rw [e]
  exact .inr ⟨_,rfl,ht⟩
 ·rw [e]
  exact .inl ⟨rfl,_,ht⟩
theorem En {K:Θf} {p q:Addr} {xs ys:List V} {n:Nat} {g:TG} {tc:TT} {te:TE} {σ:St} {H:Hp} {F:List V->Hp->Prop} (Pv:Nat->List V->Hp->Prop) (hn:xs.length<=1000000) (he:xs.length=ys.length) (h0:Pv 0 [] H)
  (hl:∀i acc H,i<=xs.length->Pv i acc H->(SqT K H p xs/\SqL K H q ys)/\acc.length<=i)
  (hs:∀i x y acc H t,xs[i]? = some x->ys[i]? = some y->Pv i acc H->H t=none->g (.ref t) (List.replicate n none++σ) (upd H t (.tup [x,y])) fun σ2 H2=>σ2.drop n=σ/\tc σ2 H2 fun c H3=>if c=true then te σ2 H3 fun v H4=>Pv (i + 1) (acc++[v]) H4 else Pv (i + 1) acc H3)
  (hd:∀acc H,Pv xs.length acc H->F acc H):LCW n (Aao K p q) g tc te σ H F:=by
 have sz:(1000000:Nat) < sizeLine:=by rw [sizeLine_eq]; decide
 refine ⟨fun i m acc H=>m=xs.length - i/\i<=xs.length/\Pv i acc H,⟨xs.length,by simp,Nat.zero_le _,h0⟩,?_⟩
 rintro i m acc H ⟨rfl,hi,pv⟩
 obtain ⟨⟨h1,h2⟩,h3⟩:=hl i acc H hi pv
 by_cases lt:i < xs.length
 ·have lt2:i < ys.length:=by omega
  refine .inr ⟨⟨xs,ys,xs[i],ys[i],h1,h2,Θh lt,Θh lt2⟩,by omega,Pv (i + 1),fun acc' H' p'=>⟨xs.length - (i + 1),by omega,rfl,lt,p'⟩,fun v H' yv=>?_⟩
  obtain ⟨t,x,y,rfl,nt,a3,a4,rfl⟩:=yv
  exact hs i x y acc H t (a3 xs h1) (a4 ys h2) pv nt
 ·obtain rfl:i=xs.length:=by omega
  exact .inl ⟨⟨xs,ys,h1,h2,Zd_ _⟩,by omega,hd acc H pv⟩
noncomputable def J4:Str:=Str.ofString "SET"
noncomputable def Fw:Str:=Str.ofString "NUMBER"
noncomputable def Fp (f w:Str):Bool:=(decide (f=J4) || decide (f=Fw)) || decide (f=w)
noncomputable def Cp (ws fs:List Str):Bool:=decide (ws.length=fs.length) && (fs.zip ws).all fun p=>Fp p.1 p.2
theorem Aa6 (z:Str):inV (.str z) [V.str J4,V.str Fw]=(decide (z=J4) || decide (z=Fw)):=by
 have h:=El (x:=z) (l:=[J4,Fw])
 rw [show ([V.str J4,V.str Fw]:List V)=[J4,Fw].map V.str from rfl,h,Bool.eq_iff_iff]
 simp
noncomputable def Iu (K:Θf):Sp:=fun vs H Q _=>∃(wp fp:Addr) (ws fs:List Str),vs=[.ref wp,.ref fp]/\SqL K H wp (ws.map V.str)/\SqT K H fp (fs.map V.str)/\ws.length<=300/\fs.length<=300/\∀H',Same H H'->Q (.bl (Cp ws fs)) H'
noncomputable def Lx:Str:=Str.ofString "let"
noncomputable def Hr:Str:=Str.ofString "drop"
noncomputable def formsL:List (List Str):=[[Str.ofString "show"],[Str.ofString "follows",J4,L9,J4],[Str.ofString "follows",J4,Du,J4],[Str.ofString "keys"],[Str.ofString "cover"],[Str.ofString "cut",J4,J4],[Str.ofString "tree"],[Str.ofString "parts"],[Str.ofString "part",J4,L9,J4],[Lx,J4,L9,J4],[Lx,J4,Du,J4],[Hr,Fw]]
structure FMT (K:Θf) (FA:Addr) (fas:List Addr):Prop where
 all:∀H:Hp,SqT K H FA (fas.map V.ref)
 len:fas.length=12
 one:∀(k:Nat) (f:Addr) (fs:List Str),fas[k]? = some f->formsL[k]? = some fs->∀H:Hp,SqT K H f (fs.map V.str)
noncomputable def Ca (K:Θf) (fas:List Addr):Sp:=fun vs H Q _=>∃(wp fa:Addr) (ws fs:List Str) (k:Nat),vs=[.ref wp]/\SqL K H wp (ws.map V.str)/\ws.length<=300/\fas[k]? = some fa/\formsL[k]? = some fs/\Cp ws fs=true/\(∀j gs,j < k->formsL[j]? = some gs->Cp ws gs=false)/\∀H',Same H H'->Q (.ref fa) H'
theorem U1:formsL.length=12:=rfl
theorem Lr {k:Nat} {fs:List Str} (h:formsL[k]? = some fs):fs.length<=300:=by
 have:∀fs∈formsL,fs.length<=300:=by decide
 exact this fs (Θe h)
noncomputable def T7 (nms:List Str):Ask->List (Str × Str × Nat)
 | .show=>[(Str.ofString "show",Str.ofString "show",0)]
 | .fol st x y=>[(Str.ofString "follows",Str.ofString "follows",0),(J4,D3 nms x,x),(D6 st,D6 st,0),(J4,D3 nms y,y)]
 | .keys=>[(Str.ofString "keys",Str.ofString "keys",0)]
 | .cover=>[(Str.ofString "cover",Str.ofString "cover",0)]
 | .cut x y=>[(Str.ofString "cut",Str.ofString "cut",0),(J4,D3 nms x,x),(J4,D3 nms y,y)]
 | .tree=>[(Str.ofString "tree",Str.ofString "tree",0)]
 | .parts=>[(Str.ofString "parts",Str.ofString "parts",0)]
 | .part x y=>[(Str.ofString "part",Str.ofString "part",0),(J4,D3 nms x,x),(L9,L9,0),(J4,D3 nms y,y)]
noncomputable def Lc:Ask->Nat
 | .show=>0
 | .fol true _ _=>1
 | .fol false _ _=>2
 | .keys=>3
 | .cover=>4
 | .cut _ _=>5
 | .tree=>6
 | .parts=>7
 | .part _ _=>8
theorem Cm (nms:List Str) (a:Ask):(T7 nms a).map (·.2.1)=O2 nms a:=by cases a <;> rfl
theorem Vl (nms:List Str) (a:Ask):((T7 nms a).filter fun p=>decide (p.1=J4)).map (·.2.2)=Sq a:=by
 cases a with
 | fol st x y=>cases st <;> rfl
 | _=>rfl
theorem Ba (nms:List Str) (a:Ask):formsL[Lc a]? = some ((T7 nms a).map (·.1)):=by
 cases a with
 | fol st x y=>cases st <;> rfl
 | _=>rfl
theorem Ld (nms:List Str) (a:Ask):Cp (O2 nms a) ((T7 nms a).map (·.1))=true:=by
 cases a with
 | fol st x y=>cases st <;> rfl
 | _=>rfl
theorem Hh (nms:List Str) (a:Ask):(formsL.take (Lc a)).all (fun fs=>!Cp (O2 nms a) fs)=true:=by
 cases a with
 | fol st x y=>cases st <;> rfl
 | _=>rfl
theorem No {nms:List Str} {a:Ask} {j:Nat} {gs:List Str} (hj:j < Lc a) (h:formsL[j]? = some gs):Cp (O2 nms a) gs=false:=by
 have:=List.all_eq_true.mp (Hh nms a) gs (Θe (i:=j) (by rw [List.getElem?_take,if_pos hj]; exact h))
 simpa using this
theorem Vk {nms:List Str} {a:Ask} (h:W5 nms.length a):∀p∈T7 nms a,p.1=J4->p.2.1=D3 nms p.2.2/\p.2.2 < 2 ^ nms.length:=by
 intro p hp e
 cases a with
 | fol st x y=>
  cases st <;>
  ·simp only [T7,List.mem_cons,List.not_mem_nil,or_false] at hp
   rcases hp with rfl | rfl | rfl | rfl
   ·exact absurd e (by decide)
   ·exact ⟨rfl,h.1⟩
   ·exact absurd e (by decide)
   ·exact ⟨rfl,h.2⟩
 | cut x y=>
  simp only [T7,List.mem_cons,List.not_mem_nil,or_false] at hp
  rcases hp with rfl | rfl | rfl
  ·exact absurd e (by decide)
  ·exact ⟨rfl,h.1⟩
  ·exact ⟨rfl,h.2.1⟩
 | part x y=>
  simp only [T7,List.mem_cons,List.not_mem_nil,or_false] at hp
  rcases hp with rfl | rfl | rfl | rfl
  ·exact absurd e (by decide)
  ·exact ⟨rfl,h.1⟩
  ·exact absurd e (by decide)
  ·exact ⟨rfl,h.2⟩
 | _=>
  rw [Θs hp] at e
  exact absurd e (by decide)
section
variable {X:Cx} {K:Θf} {e:Expr} {ta:TE} {f:Str} {pos:Pos}
theorem Q0 (h:X.K=K) (he:PE X e ta) (hb:attributeBase e f X.env (eval e X.env)=eval e X.env):PE X (.Attribute e f pos) (Agk K ta f):=h ▸ Aeh he hb
end
structure DK (K:Θf) (CD:Addr):Prop where
 cl:Cls K CD
 nN:NoAttr K CD "names"
 nR:NoAttr K CD "rules"
noncomputable def Afq (np rl:Addr):List (Str × V):=[(Str.ofString "names",.ref np),(Str.ofString "rules",.ref rl)]
noncomputable def DeskAt (H:Hp) (CD d np rl:Addr):Prop:=∃dx,H d=some (.ins CD dx (Afq np rl))
theorem DeskAt.same {H H':Hp} {CD d np rl:Addr} (h:DeskAt H CD d np rl) (e:Same H H'):DeskAt H' CD d np rl:=by
 obtain ⟨dx,h⟩:=h
 exact ⟨dx,e _ _ h⟩
noncomputable def Kv (CD:Addr):Sp:=fun vs H Q _=>∃(d dx:Addr) (nms:List Str) (rs:List RD),vs=[.ref d,.str (Ch nms rs)]/\H d=some (.ins CD dx [])/\NM nms/\NW nms/\(∀r∈rs,InR nms r/\r.2.2≠0)/\rs.length<=12/\
 ∀(nl rl:Addr) (ks:List Rl) (H':Hp),But d H H'->nl≠d->rl≠d->nl≠rl->H nl=none->H rl=none->DeskAt H' CD d nl rl->ks.map Rl.d=rs->RulesAt H' nms.length ks->H' nl=some (.lst (nms.map V.str))->H' rl=some (.lst (ks.map fun r=>V.ref r.r))->Q .non H'
noncomputable def Zx (K:Θf) (CD CT:Addr):Sp:=fun vs H Q E=>∃(d np rl:Addr) (nms:List Str) (rs:List Rl) (a:Ask),vs=[.ref d,.str (Str.join C8 (O2 nms a))]/\DeskAt H CD d np rl/\H np=some (.lst (nms.map V.str))/\NM nms/\SqL K H rl (rs.map fun r=>V.ref r.r)/\RulesAt H nms.length rs/\rs.length<=12/\
 W5 nms.length a/\(∀t,Sn nms (rs.map Rl.d) a=some t->∀H',Same H H'->Q (.str t) H')/\(Sn nms (rs.map Rl.d) a=none->∀H',Same H H'->E (.ref CT) none H')
theorem J9 {nms:List Str} {s:Nat} (N:NM nms) (hs:s < 2 ^ nms.length):∀c∈(D3 nms s).cps.toList,44<=c/\c < 128:=by
 unfold D3
 split
 ·decide
 ·exact V6 (p:=fun c=>44<=c/\c < 128) (by decide) fun y hy c hc=>by
   have:=Cw N hs y hy c hc
   omega
section
variable {nms:List Str} {s:Nat}
theorem Dh (N:NM nms) (hs:s < 2 ^ nms.length) (h:D3 nms s=Dt):s=0:=by
 by_cases h0:s=0
 ·exact h0
 ·unfold D3 at h
  rw [if_neg h0] at h
  have:=Nm N hs (Aq N hs h0) 45 (by rw [h]; decide)
  unfold okC at this
  omega
theorem Dg {z:Nat} (N:NM nms) (hs:s < 2 ^ nms.length) (hz:z < 2 ^ nms.length) (n0:D3 nms s≠Dt) (e:Txt.split (D3 nms s) commaS=D8 nms z):z=s:=by
 unfold D3 at n0 e
 by_cases h0:s=0
 ·rw [if_pos h0] at n0; exact absurd rfl n0
 ·rw [if_neg h0,Aq N hs h0] at e
  exact Oa N hz hs e.symm
theorem Ks (N:NM nms) (hs:s < 2 ^ nms.length):¬Vg nms (D3 nms s):=fun h=>by
 unfold D3 at h
 by_cases h0:s=0
 ·rw [if_pos h0] at h; exact h.1 rfl
 ·rw [if_neg h0] at h; exact h.2 s hs (Aq N hs h0)
end
theorem Hd (st:Bool):∀c∈(D6 st).cps.toList,44<=c/\c < 128:=by cases st <;> decide
theorem S6 (st:Bool):(D6 st).length<=70:=by cases st <;> decide
theorem Cl {nms:List Str} {a:Ask} (N:NM nms) (h:W5 nms.length a):∀w∈O2 nms a,(∀c∈w.cps.toList,44<=c/\c < 128)/\w.length<=70:=by
 intro w hw
 cases a with
 | fol st x y=>
  simp only [O2,List.mem_cons,List.not_mem_nil,or_false] at hw
  rcases hw with rfl | rfl | rfl | rfl
  ·exact ⟨by decide,by decide⟩
  ·exact ⟨J9 N h.1,F0 N h.1⟩
  ·exact ⟨Hd st,S6 st⟩
  ·exact ⟨J9 N h.2,F0 N h.2⟩
 | cut x y=>
  simp only [O2,List.mem_cons,List.not_mem_nil,or_false] at hw
  rcases hw with rfl | rfl | rfl
  ·exact ⟨by decide,by decide⟩
  ·exact ⟨J9 N h.1,F0 N h.1⟩
  ·exact ⟨J9 N h.2.1,F0 N h.2.1⟩
 | part x y=>
  simp only [O2,List.mem_cons,List.not_mem_nil,or_false] at hw
  rcases hw with rfl | rfl | rfl | rfl
  ·exact ⟨by decide,by decide⟩
  ·exact ⟨J9 N h.1,F0 N h.1⟩
  ·exact ⟨by decide,by decide⟩
  ·exact ⟨J9 N h.2,F0 N h.2⟩
 | _=>
  rw [Θs hw]
  exact ⟨by decide,by decide⟩
theorem Eh (nms:List Str) (a:Ask):1<=(O2 nms a).length/\(O2 nms a).length<=4:=by cases a <;> exact ⟨by show 1<=_; simp [O2],by simp [O2]⟩
theorem Sr {nms:List Str} {a:Ask} (N:NM nms) (h:W5 nms.length a):Txt.split (Str.join C8 (O2 nms a)) C8=O2 nms a:=
 P8 (c:=32) (by decide) (fun e=>by have:=(Eh nms a).1; rw [e] at this; exact absurd this (by decide)) fun p hp hc=>by
  have:=((Cl N h p hp).1 32 hc).1
  omega
theorem Aas {nms:List Str} {a:Ask} (N:NM nms) (h:W5 nms.length a):(Str.join C8 (O2 nms a)).length<=290:=by
 have h1:=Bf (sep:=C8) (d:=70) (fun y hy=>(Cl N h y hy).2) rfl
 have h2:=(Eh nms a).2
 have h3:(O2 nms a).length * 70<=4 * 70:=Nat.mul_le_mul_right _ h2
 omega
theorem Vm (nms:List Str) (a:Ask):∃w:Str,((O2 nms a).map V.str)[0]? = some (V.str w)/\¬V.str w=V.str (Str.ofString "let")/\¬V.str w=V.str (Str.ofString "drop"):=by
 cases a <;> exact ⟨_,rfl,by decide,by decide⟩
end L2
namespace Own
open PySem L2
section
variable {P:Program} {w:World} {K:Θf} {mg:Str->Option Value} {base:Heap}
seal PySem.wpAny
noncomputable abbrev Dc:Stmt:=Ek (top 81) 0
theorem scDInit:FnScope ["self","text","told"] ["self","text"] (A7 Dc):=⟨rfl,rfl,rfl,by decide +kernel,rfl,by decide +kernel,by decide +kernel⟩
theorem Xs {f fRE CD:Addr} {fd fdRE:FuncData} (F:Fun K "__init__" "Desk.__init__" Dc f fd) (GRE:FnOk P w K mg base CX0 4 fRE fdRE ["text"] Rz) (mRE:mg "read" = some (.ref fRE)) (kRE:Θk K fRE) (bRE:Binds K fdRE ["text"] []) (T:DK K CD):FnOk P w K mg base CX0 5 f fd ["self","text"] (Kv CD):=by
 refine F.ok scDInit (fun vs H Q E h=>?_) (fun cdv A outer s H vs Q E hr h=>?_)
 ·obtain ⟨d,dx,nms,rs,rfl,_⟩:=h
  rfl
 ·obtain ⟨d,dx,nms,rs,rfl,hd,NN,NNW,hI,l12,q⟩:=h
  have nd:=scDInit.nd
  have hr4:Room 4 _:=hr.mono (by decide)
  refine ⟨_,(A2 (C0 (i:=2) nd rfl (Or.inl rfl) (A8 GRE hr4 rfl mRE kRE bRE .nil B2 (A0 (pv 1) A1)))
   (A2 (Jy (pv 0) (C4 (C2 (K:=K) rfl) (pv 2) A5 (fun _ _=>rfl)) rfl)
   (A4 (Jy (pv 0) (C4 (C2 (K:=K) rfl) (pv 2) A5 (fun _ _=>rfl)) rfl)))),?_⟩
  refine ⟨_,rfl,nms,rs,rfl,NN,NNW,hI,l12,fun t nl rl ks H1 s1 hn0 hr0 nnr ek hR ht hn hrl hne=>?_⟩
  have hd1:=s1 _ _ hd
  have td:t≠d:=fun e=>by rw [e,hd1] at ht; cases ht
  have nld:nl≠d:=(C7 hd hn0).symm
  have rld:rl≠d:=(C7 hd hr0).symm
  refine ⟨_,rfl,t,_,_,_,rfl,rfl,SqT.of ht,A6 (j:=0) (v:=.ref nl) rfl,_,rfl,d,CD,dx,[],rfl,hd1,T.cl,T.nN,by decide,?_⟩
  have ht2:(upd H1 d (.ins CD dx (X5 "names" (.ref nl) []))) t=_:=(C6 td).trans ht
  refine ⟨_,rfl,t,_,_,_,rfl,rfl,SqT.of ht2,A6 (j:=1) (v:=.ref rl) rfl,_,rfl,d,CD,dx,_,rfl,A3,T.cl,T.nR,(by show 1 < 1000; decide),?_⟩
  refine q nl rl ks _ (fun b o e hb=>?_) nld rld nnr hn0 hr0 ⟨dx,A3⟩ ek (fun r hr'=>⟨?_,(hR r hr').2⟩) ?_ ?_
  ·rw [C6 hb,C6 hb]; exact s1 _ _ e
  ·have z:r.r≠d:=fun e=>by
    have:=(hR r hr').1
    unfold E4 at this
    rw [e,hd1] at this
    cases this
   show upd (upd H1 d _) d _ r.r=_
   rw [C6 z,C6 z]; exact (hR r hr').1
  ·rw [C6 nld,C6 nld]; exact hn
  ·rw [C6 rld,C6 rld]; exact hrl
noncomputable abbrev Gi:Stmt:=Ek (top 81) 1
theorem scSay:FnScope ["self","row","words","form","sets"] ["self","row"] (A7 Gi):=⟨rfl,rfl,rfl,by decide +kernel,rfl,by decide +kernel,by decide +kernel⟩
theorem Ad8 {f fWO fFM fRS fAN CD CST CTM:Addr} {fas:List Addr} {fd fdWO fdFM fdRS fdAN:FuncData} (F:Fun K "say" "Desk.say" Gi f fd) (GWO:FnOk P w K mg base CX0 1 fWO fdWO ["row"] (Z2 K)) (mWO:mg "words_of" = some (.ref fWO)) (kWO:Θk K fWO) (bWO:Binds K fdWO ["row"] []) (GFM:FnOk P w K mg base CX0 2 fFM fdFM ["words"] (Ca K fas)) (mFM:mg "form_of" = some (.ref fFM)) (kFM:Θk K fFM) (bFM:Binds K fdFM ["words"] []) (GRS:FnOk P w K mg base CX0 2 fRS fdRS ["names","text"] (fun vs H Q _=>Z1 K CST vs H Q fun _ _ _=>False)) (mRS:mg "read_set" = some (.ref fRS)) (kRS:Θk K fRS) (bRS:Binds K fdRS ["names","text"] []) (GAN:FnOk P w K mg base (CX1 P w) 136 fAN fdAN ["names","rules","words","sets"] (My K CTM)) (mAN:mg "answer" = some (.ref fAN)) (kAN:Θk K fAN) (bAN:Binds K fdAN ["names","rules","words","sets"] []) (zzip:mg "zip" = none) (fl:fas.length=12) (fone:∀(k:Nat) (f:Addr) (fs:List Str),fas[k]? = some f->formsL[k]? = some fs->∀H:Hp,SqT K H f (fs.map V.str)) (T:DK K CD):FnOk P w K mg base (CX1 P w) 137 f fd ["self","row"] (Zx K CD CTM):=by
 refine F.ok1 scSay (fun vs H Q E h=>?_) (fun cdv A outer s H vs Q E hr h=>?_)
 ·obtain ⟨d,np,rl,nms,rs,a,rfl,_⟩:=h
  rfl
 ·obtain ⟨d,np,rl,nms,rs,a,rfl,hD,hn,NN,hrl,hR,l12,ha,qq,qe⟩:=h
  have nd:=scSay.nd
  have hr1:Room 1 _:=hr.mono (by decide)
  have hr2:Room 2 _:=hr.mono (by decide)
  have hrA:Room 136 _:=hr.mono (by decide)
  refine ⟨_,(A2 (C0 (i:=2) nd rfl (Or.inl rfl) (A8 GWO hr1 rfl mWO kWO bWO .nil B2 (A0 (pv 1) A1)))
   (A2 (C0 (i:=3) nd rfl (Or.inl rfl) (A8 GFM hr2 rfl mFM kFM bFM .nil B2 (A0 (pv 2) A1)))
   (A2 (S8 (i:=4) (xs:=["place","word"]) (cs ["self","row","words","form","sets"] (A7 Gi) rfl rfl (by decide +kernel)) rfl nd rfl rfl (Es (K:=K) rfl (by rfl) zzip (A0 (pv 3) (A0 (pv 2) A1))) (fun _ _ _=>Er (K:=K) (n:=2) rfl rfl (E1 (C5 (i:=0) (show (["place","word","self","row","words","form","sets"]:List Str).Nodup by decide +kernel) rfl (Or.inl rfl)) (E1 (C5 (i:=1) (show (["place","word","self","row","words","form","sets"]:List Str).Nodup by decide +kernel) rfl (Or.inl rfl)) N4)) rfl rfl) (fun _ _ _=>(R1 (B1 op_eq (pv 0) B9 (C3 _)))) (fun _ _ _=>(A8 GRS hr2 rfl mRS kRS bRS .nil B2 (A0 (Q0 (K:=K) rfl (pv 2) rfl) (A0 (pv 1) A1)))))
   (A2 (D1 (B1 op_eq (C4 (C9 (K:=K) rfl) (pv 2) A5 (fun _ _=>rfl)) B9 (C3 _)) (A4 M8) C1)
   (A2 (D1 (B1 op_eq (C4 (C9 (K:=K) rfl) (pv 2) A5 (fun _ _=>rfl)) B9 (C3 _)) (A4 M8) C1)
   (A4 (A9 (A8 GAN hrA rfl mAN kAN bAN .nil (Mp fun _ _ z=>z) (A0 (Q0 (K:=K) rfl (pv 0) rfl) (A0 (Q0 (K:=K) rfl (pv 0) rfl) (A0 (pv 2) (A0 (pv 4) A1)))))))))))),?_⟩
  refine ⟨_,rfl,_,rfl,Aas NN ha,fun wp H1 s1 hw0 hw=>?_⟩
  rw [Sr NN ha] at hw
  have few:=(Eh nms a).2
  have kl:Lc a < fas.length:=by rw [fl,<-U1]; exact (Ze_.mp (Ba nms a)).1
  have ea:=Θh kl
  refine ⟨_,rfl,wp,fas[Lc a],O2 nms a,_,Lc a,rfl,SqL.of hw,by omega,ea,Ba nms a,Ld nms a,(fun j gs hj h=>No hj h),fun H2 s2=>?_⟩
  have hf:=fone _ _ _ ea (Ba nms a)
  generalize fas[Lc a]=fa at hf
  have hw2:=s2 _ _ hw
  replace s2:=s1.trans s2
  have ep:(T7 nms a).length=(O2 nms a).length:=by rw [<-Cm nms a,Θl]
  have m1:(((T7 nms a).map (·.1)).map V.str).length=(T7 nms a).length:=by rw [Θl,Θl]
  have m2:((O2 nms a).map V.str).length=(T7 nms a).length:=by rw [Θl,ep]
  refine ⟨_,rfl,_,rfl,fa,wp,_,_,rfl,hf _,SqL.of hw2,En (K:=K) (xs:=((T7 nms a).map (·.1)).map V.str) (ys:=(O2 nms a).map V.str) (n:=2) (fun j acc H'=>Same H H'/\Same H2 H'/\acc=((((T7 nms a).take j).filter fun p=>decide (p.1=J4)).map (·.2.2)).map vN) (by omega) (by omega) ⟨s2,Same.refl _,rfl⟩ (fun j acc H' hj h=>?_) (fun j x y acc H' t hx hy h ht=>?_) (fun acc H' h=>?_)⟩
  ·obtain ⟨s4,s5,rfl⟩:=h
   refine ⟨⟨hf _,SqL.of (s5 _ _ hw2)⟩,?_⟩
   rw [Θl,Θl]
   exact Zo_ (List.length_filter_le _ _) (List.length_take_le _ _)
  ·obtain ⟨s4,s5,rfl⟩:=h
   rw [<-Cm nms a] at hy
   rw [Θg,Θg] at hx hy
   cases e1:(T7 nms a)[j]? with
   | none=>rw [e1] at hx; cases hx
   | some p=>
    rw [e1] at hx hy
    obtain rfl:=(Θo hx).symm
    obtain rfl:=(Θo hy).symm
    have s6:=Same.new (o:=.tup [V.str p.1,V.str p.2.1]) ht
    have s7:=s4.trans s6
    replace s6:=s5.trans s6
    refine ⟨t,_,rfl,SqT.of A3,rfl,_,_,rfl,_,_,rfl,rfl,rfl,?_⟩
    generalize upd H' t (.tup [V.str p.1,V.str p.2.1])=H5 at s6 s7
    have et:(T7 nms a).take (j + 1)=(T7 nms a).take j++[p]:=by rw [List.take_succ,e1]; rfl
    refine ⟨_,rfl,rfl,_,rfl,?_⟩
    rw [show decide (V.str p.1=V.str (Str.ofString "SET"))=decide (p.1=J4) from decide_eq_decide.mpr ⟨fun e=>by injection e,fun e=>by rw [e]; rfl⟩]
    refine E8 (fun hc=>?_) (fun hc=>?_)
    ·have e:=Zj_ hc
     obtain ⟨ew,lt⟩:=Vk ha p (Θe e1) e
     obtain ⟨dx,hd⟩:=hD
     have fin:∀H6,Same H5 H6->Same H H6/\Same H2 H6/\(((((T7 nms a).take j).filter fun p=>decide (p.1=J4)).map (·.2.2)).map vN)++[vN p.2.2]=((((T7 nms a).take (j + 1)).filter fun p=>decide (p.1=J4)).map (·.2.2)).map vN:=fun H6 s8=>⟨s7.trans s8,s6.trans s8,by rw [et,List.filter_append,Zw_,Zw_,List.filter_cons_of_pos (by exact hc)]; rfl⟩
     refine ⟨_,rfl,d,CD,dx,_,_,rfl,s7 _ _ hd,T.cl,T.nN,rfl,_,rfl,np,nms,_,rfl,SqL.of (s7 _ _ hn),NN,?_⟩
     have sl:=F0 NN lt
     have sc:=J9 NN lt
     rw [show (fun x:Str × Str × Nat=>x.2.1) p=D3 nms p.2.2 from ew]
     refine ⟨by omega,(fun c hc'=>by have:=sc c hc'; omega),fun e0=>?_,fun z H6 s8 n0 hz es=>?_,fun no=>?_⟩
     ·rw [<-Dh NN lt e0]
      exact fin _ (Same.refl _)
     ·rw [Dg NN lt hz n0 es]
      exact fin _ s8
     ·exact absurd no (Ks NN lt)
    ·refine ⟨s7,s6,?_⟩
     rw [et,List.filter_append,List.filter_cons_of_neg (by exact hc),List.filter_nil,List.append_nil]
  obtain ⟨s4,s5,rfl⟩:=h
  rw [m1,List.take_length,Vl]
  intro l2 hl2
  have s6:=Same.new (o:=.lst ((Sq a).map vN)) hl2
  have h6:(upd H' l2 (.lst ((Sq a).map vN))) l2=some (.lst ((Sq a).map vN)):=A3
  have hw6:=s6 _ _ (s5 _ _ hw2)
  replace s6:=s4.trans s6
  generalize upd H' l2 (.lst ((Sq a).map vN))=H6 at s6 h6 hw6
  obtain ⟨w0,ew0,n1,n2⟩:=Vm nms a
  refine ⟨_,rfl,wp,_,_,_,rfl,rfl,SqL.of hw6,A6 (j:=0) (v:=V.str w0) ew0,rfl,_,rfl,?_⟩
  rw [decide_eq_false n1]
  refine E7 ?_
  refine ⟨_,rfl,wp,_,_,_,rfl,rfl,SqL.of hw6,A6 (j:=0) (v:=V.str w0) ew0,rfl,_,rfl,?_⟩
  rw [decide_eq_false n2]
  refine E7 ?_
  obtain ⟨dx,hd⟩:=hD
  exact ⟨_,rfl,d,CD,dx,_,_,rfl,s6 _ _ hd,T.cl,T.nN,rfl,_,rfl,d,CD,dx,_,_,rfl,s6 _ _ hd,T.cl,T.nR,rfl,_,rfl,_,rfl,np,rl,wp,l2,nms,rs,a,rfl,s6 _ _ hn,NN,s6.seq hrl,hR.same s6,l12,SqL.of hw6,SqL.of h6,ha,(fun z ez H7 s7=>qq z ez H7 (s6.trans s7)),(fun ez H7 s7=>qe ez H7 (s6.trans s7))⟩
end
end Own
namespace L2
open PySem PySem.Spec PyProof.Rows
section
variable {X:Cx} {p0 pins:List (Addr × Obj)} {σ:St} {H:Hp} {s:Shared} {ET:XK}
end
section
variable {X:Cx} {body hb:List Stmt} {b₀:Stmt} {tb:XK->TS} {th:TS} {cx:Str} {c:Value} {cp hp pos:Pos}
end
noncomputable def Ag5:Option Str->V
 | none=>.non
 | some t=>.str t
section
variable {X:Cx} {k:Nat} {f C:Addr} {fd:FuncData} {ps:List Str} {sp:Sp} {m y:Str} {yp ap apos pos:Pos} {o e:Expr} {es:List Expr} {ta:TE} {t:TA} {i:Nat} {pl:Sem Bool}
theorem Ab6 (he:∀E',PE (X.wish E') o ta) (c:Cls X.K C) (hm:Meth X.K C m f) (F:FnOk X.prog X.w X.K X.mg X.base (CX1 X.prog X.w) k f fd ps sp) (hr:Room k X.A) (hb:Binds X.K fd ps [])
  (ha:∀E',PA (X.wish E') (e :: es) t) (hN:X.N.Nodup) (hi:X.N[i]? = some y) (hx:Loc X.env.scope y) (hst:starEach (e :: es) X.env=(false,eval e X.env) :: starEach es X.env:=by rfl) (hpl:(backTo pos (starEach es X.env)).any (·.1)=false:=by rfl)
  (ht:eval (.Call (.Attribute o m apos) (e :: es) [] pos) X.env=(do
   let ov <-eval o X.env
   standAt apos.atName
   let (f,first) <-holding [ov] (getMethod ov m pl)
   callWith pos f first (backTo pos (starEach (e :: es) X.env)) (backToKw pos (keywordEach [] X.env))):=by rfl)
  (hs:swapsWith (.Call (.Attribute o m apos) (e :: es) [] pos) (some (.Name y yp)) ap.line X.env=pure false:=by rfl) (hf:X.fn y=true\/X.env.scope.names.lookup y=some .local:=by first | exact .inl rfl | exact .inr rfl | assumption) :
  Ac7 X [.Assign [.Name y yp] (.Call (.Attribute o m apos) (e :: es) [] pos) ap] (fun N E σ H=>ta σ H fun x H1=>∃a dx fs,x = .ref a/\H1 a=some (.ins C dx fs)/\fs.lookup m=none/\t σ H1 fun vs H2=>sp (x :: vs) H2 (fun v H3=>N (σ.set i (some v)) H3) (E σ)):=by
 intro pins s σ H N E I h
 let EE:Value->Shared->Prop:=fun e s'=>∃σ' H1 s1,Inv X pins σ' H1 s1/\CX1 X.prog X.w X.stack H1 s1 (E σ') e s'
 refine wpAny_execs_cons (wpAny_Assign_Name (PySem.W.methodCall_KW (pl:=pl) (thn (he EE pins s σ H _ (I.wish _) h) fun u s1 h1=>?_) ht) hs)
 obtain ⟨x,H1,I1,rx,a,dx,fs,ex,ea,l,q⟩:=h1
 subst ex
 obtain rfl:u=Value.ref a:=rx
 refine Ah I1.unwish ea c hm l ?_
 refine PySem.W.callWith_K (first:=[.ref a]) (h₀:=X.base) I.ok.mod.kin hm.kp (thn (ha EE pos pins s1 σ H1 _ I1 q) fun us s2 h2=>?_) hst hpl
 obtain ⟨vs,H2,I2,r,q2⟩:=h2
 replace I2:=I2.unwish
 refine ⟨I2.kIn,?_⟩
 have r2:Vals (V.ref a :: vs) (Value.ref a :: us):=.cons rfl r
 have hl:(Value.ref a :: us++[]).length=ps.length:=by rw [List.append_nil,<-r2.length]; exact F.len _ _ _ _ q2
 have hb2:=hb s2 (Value.ref a :: us) I2.kIn hl
 rw [List.append_nil] at hb2
 refine wpAny_call (codeAny_mono (F.run X.A X.stack s2 H2 ⟨Value.ref a :: us,[]⟩ (Value.ref a :: us) _ _ _ hr I2.env0 hb2 r2 q2) fun r s' hq=>?_)
 cases r with
 | error e=>exact ⟨σ,H2,s2,I2,hq⟩
 | ok fl=>
  cases fl with
  | ret u=>
   obtain ⟨v,H3,I3,r3,q3⟩:=I2.after hq
   exact Cg I3 hN hi hx r3 (fun s4 I4=>wpAny_execs_nil ⟨rfl,_,H3,I4,q3⟩) hf
  | next=>exact False.elim hq
  | brk=>exact False.elim hq
  | cont=>exact False.elim hq
end
theorem Ab9 (a b:Str):Str.ofString "cut "++a++Str.ofString " "++b=Str.join C8 [Str.ofString "cut",a,b]:=by
 rw [show Str.ofString "cut " = Str.ofString "cut"++C8 from rfl]
 show _=Str.ofString "cut"++C8++(a++C8++b)
 rw [show Str.ofString " " = C8 from rfl]
 simp only [Str.append_assoc]
theorem Ys (a b:Str):Str.ofString "part "++a++Str.ofString " settle "++b=Str.join C8 [Str.ofString "part",a,L9,b]:=by
 rw [show Str.ofString "part " = Str.ofString "part"++C8 from rfl,show Str.ofString " settle " = C8++L9++C8 from rfl]
 show _=Str.ofString "part"++C8++(a++C8++(L9++C8++b))
 simp only [Str.append_assoc]
theorem Aca (a w b:Str):Str.ofString "follows "++a++Str.ofString " "++w++Str.ofString " "++b=Str.join C8 [Str.ofString "follows",a,w,b]:=by
 rw [show Str.ofString "follows " = Str.ofString "follows"++C8 from rfl]
 show _=Str.ofString "follows"++C8++(a++C8++(w++C8++b))
 rw [show Str.ofString " " = C8 from rfl]
 simp only [Str.append_assoc]
theorem Yg {n x o:Nat} (hx:x < 2 ^ n) (ho:o < 2 ^ n):x|||(o|||(2 ^ n - 1 - x))=2 ^ n - 1:=by
 refine Nat.eq_of_testBit_eq fun i=>?_
 rw [Nat.testBit_or,Nat.testBit_or,show 2 ^ n - 1 - x=2 ^ n - (x + 1) by omega,Nat.testBit_two_pow_sub_succ hx,Nat.testBit_two_pow_sub_one]
 by_cases hi:i < n
 ·rw [Zr_ hi]
  cases x.testBit i <;> cases o.testBit i <;> rfl
 ·have hp:2 ^ n<=2 ^ i:=Nat.pow_le_pow_right (by decide) (by omega)
  rw [Nat.testBit_lt_two_pow (by omega),Nat.testBit_lt_two_pow (x:=o) (by omega),decide_eq_false hi]
  rfl
theorem via {G:St->Hp->Prop} (M:(St->Hp->Prop)->Prop) {R:Prop} (use:M G->R) (main:M G):R:=use main
theorem Bg {c:Nat}:∀ps:List Str,ps.length<=(Str.join ⟨#[c]⟩ ps).length + 1
 | []=>by simp
 | [p]=>by simp
 | p :: q :: r=>by
  have e:Str.join ⟨#[c]⟩ (p :: q :: r)=p++⟨#[c]⟩++Str.join ⟨#[c]⟩ (q :: r):=rfl
  have h:=Bg (c:=c) (q :: r)
  rw [e,Str.length_append,Str.length_append]
  have:(⟨#[c]⟩:Str).length=1:=rfl
  simp only [List.length_cons] at h ⊢
  omega
theorem Py (t:Str) (c:Nat):(Txt.split t ⟨#[c]⟩).length<=t.length + 1:=by
 have h1:Str.join ⟨#[c]⟩ (Txt.split t ⟨#[c]⟩)=t:=StrLaws.join_split t ⟨#[c]⟩
 have:=Bg (c:=c) (Txt.split t ⟨#[c]⟩)
 rw [h1] at this
 exact this
inductive Row
 | ask (a:Ask)
 | rlet (st:Bool) (x y:Nat)
 | rdrop (k:Nat)
noncomputable def M1 (nms:List Str):Row->List (Str × Str × Nat)
 | .ask a=>T7 nms a
 | .rlet st x y=>[(Lx,Lx,0),(J4,D3 nms x,x),(D6 st,D6 st,0),(J4,D3 nms y,y)]
 | .rdrop k=>[(Hr,Hr,0),(Fw,Q3 k,0)]
noncomputable def M9 (nms:List Str) (r:Row):List Str:=(M1 nms r).map (·.2.1)
noncomputable def Hf (nms:List Str) (r:Row):List Nat:=((M1 nms r).filter fun p=>decide (p.1=J4)).map (·.2.2)
noncomputable def Gd:Row->Nat
 | .ask a=>Lc a
 | .rlet true _ _=>9
 | .rlet false _ _=>10
 | .rdrop _=>11
noncomputable def Fd (n:Nat):Row->Prop
 | .ask a=>W5 n a
 | .rlet _ x y=>x < 2 ^ n/\y < 2 ^ n/\y≠0
 | .rdrop k=>k < 12
theorem Ev (nms:List Str) (a:Ask):M9 nms (.ask a)=O2 nms a:=Cm nms a
theorem V0 (nms:List Str) (r:Row):formsL[Gd r]? = some ((M1 nms r).map (·.1)):=by
 cases r with
 | ask a=>exact Ba nms a
 | rlet st x y=>cases st <;> rfl
 | rdrop k=>rfl
theorem Mt (nms:List Str) (r:Row):Cp (M9 nms r) ((M1 nms r).map (·.1))=true:=by
 cases r with
 | ask a=>rw [Ev]; exact Ld nms a
 | rlet st x y=>cases st <;> rfl
 | rdrop k=>rfl
theorem Uo (nms:List Str) (r:Row):(formsL.take (Gd r)).all (fun fs=>!Cp (M9 nms r) fs)=true:=by
 cases r with
 | ask a=>rw [Ev]; exact Hh nms a
 | rlet st x y=>cases st <;> rfl
 | rdrop k=>rfl
theorem Ge {nms:List Str} {r:Row} {j:Nat} {gs:List Str} (hj:j < Gd r) (h:formsL[j]? = some gs):Cp (M9 nms r) gs=false:=by
 have:=List.all_eq_true.mp (Uo nms r) gs (Θe (i:=j) (by rw [List.getElem?_take,if_pos hj]; exact h))
 simpa using this
theorem Yr {nms:List Str} {r:Row} (h:Fd nms.length r):∀p∈M1 nms r,p.1=J4->p.2.1=D3 nms p.2.2/\p.2.2 < 2 ^ nms.length:=by
 intro p hp e
 cases r with
 | ask a=>exact Vk h p hp e
 | rlet st x y=>
  cases st <;>
  ·simp only [M1,List.mem_cons,List.not_mem_nil,or_false] at hp
   rcases hp with rfl | rfl | rfl | rfl
   ·exact absurd e (by decide)
   ·exact ⟨rfl,h.1⟩
   ·exact absurd e (by decide)
   ·exact ⟨rfl,h.2.1⟩
 | rdrop k=>
  simp only [M1,List.mem_cons,List.not_mem_nil,or_false] at hp
  rcases hp with rfl | rfl
  ·exact absurd e (by decide)
  ·exact absurd (show Fw=J4 from e) (by decide)
theorem Tp:∀k,k < 12->(∀c∈(Q3 k).cps.toList,44<=c/\c < 128)/\(Q3 k).length<=70:=by decide +kernel
theorem Ik {nms:List Str} {r:Row} (N:NM nms) (h:Fd nms.length r):∀w∈M9 nms r,(∀c∈w.cps.toList,44<=c/\c < 128)/\w.length<=70:=by
 intro w hw
 cases r with
 | ask a=>rw [Ev] at hw; exact Cl N h w hw
 | rlet st x y=>
  simp only [M9,M1,List.map_cons,List.map_nil,List.mem_cons,List.not_mem_nil,or_false] at hw
  rcases hw with rfl | rfl | rfl | rfl
  ·exact ⟨by decide,by decide⟩
  ·exact ⟨J9 N h.1,F0 N h.1⟩
  ·exact ⟨Hd st,S6 st⟩
  ·exact ⟨J9 N h.2.1,F0 N h.2.1⟩
 | rdrop k=>
  simp only [M9,M1,List.map_cons,List.map_nil,List.mem_cons,List.not_mem_nil,or_false] at hw
  rcases hw with rfl | rfl
  ·exact ⟨by decide,by decide⟩
  ·exact Tp k h
theorem Ew (nms:List Str) (r:Row):1<=(M9 nms r).length/\(M9 nms r).length<=4:=by
 cases r with
 | ask a=>rw [Ev]; exact Eh nms a
 | rlet st x y=>exact ⟨by simp [M9,M1],by simp [M9,M1]⟩
 | rdrop k=>exact ⟨by simp [M9,M1],by simp [M9,M1]⟩
theorem Im {nms:List Str} {r:Row} (N:NM nms) (h:Fd nms.length r):Txt.split (Str.join C8 (M9 nms r)) C8=M9 nms r:=
 P8 (c:=32) (by decide) (fun e=>by have:=(Ew nms r).1; rw [e] at this; exact absurd this (by decide)) fun p hp hc=>by
  have:=((Ik N h p hp).1 32 hc).1
  omega
theorem Il {nms:List Str} {r:Row} (N:NM nms) (h:Fd nms.length r):(Str.join C8 (M9 nms r)).length<=290:=by
 have h1:=Bf (sep:=C8) (d:=70) (fun y hy=>(Ik N h y hy).2) rfl
 have h2:=(Ew nms r).2
 have h3:(M9 nms r).length * 70<=4 * 70:=Nat.mul_le_mul_right _ h2
 omega
noncomputable def Ac3 (K:Θf) (CD CT:Addr):Sp:=fun vs H Q E=>∃(d np rl r:Addr) (xs:List V) (st:Bool) (x y:Nat),vs=[.ref d,.ref r]/\DeskAt H CD d np rl/\H rl=some (.lst xs)/\E4 H r st x y/\y≠0/\xs.length<=12/\
 (12<=xs.length->∀H',Same H H'->E (.ref CT) none H')/\(xs.length < 12->∀rl2 H',But d H H'->H rl2=none->DeskAt H' CD d np rl2->H' rl2=some (.lst (xs++[.ref r]))->Q (.str (Str.ofString "ok")) H')
noncomputable def Zu (K:Θf) (CD:Addr):Sp:=fun vs H Q _=>∃(d np rl:Addr) (A B:List V) (v:V),vs=[.ref d,.str (Q3 A.length)]/\DeskAt H CD d np rl/\H rl=some (.lst (A++v :: B))/\(A++v :: B).length<=12/\
 ∀rl2 H',But d H H'->H rl2=none->DeskAt H' CD d np rl2->H' rl2=some (.lst (A++B))->Q (.str (Str.ofString "ok")) H'
noncomputable def Kx (CD CT:Addr):Sp:=fun vs H Q E=>∃(d np rl:Addr) (nms:List Str) (xs:List V) (st:Bool) (x y:Nat),vs=[.ref d,.str (Str.join C8 (M9 nms (.rlet st x y)))]/\DeskAt H CD d np rl/\H np=some (.lst (nms.map V.str))/\NM nms/\H rl=some (.lst xs)/\xs.length<=12/\Fd nms.length (.rlet st x y)/\
 (12<=xs.length->∀H',Same H H'->E (.ref CT) none H')/\(xs.length < 12->∀r rl2 H',But d H H'->H rl2=none->E4 H' r st x y->DeskAt H' CD d np rl2->H' rl2=some (.lst (xs++[.ref r]))->Q (.str (Str.ofString "ok")) H')
noncomputable def Zy (CD:Addr):Sp:=fun vs H Q _=>∃(d np rl:Addr) (nms:List Str) (A B:List V) (v:V),vs=[.ref d,.str (Str.join C8 (M9 nms (.rdrop A.length)))]/\DeskAt H CD d np rl/\H np=some (.lst (nms.map V.str))/\NM nms/\H rl=some (.lst (A++v :: B))/\(A++v :: B).length<=12/\
 ∀rl2 H',But d H H'->H rl2=none->DeskAt H' CD d np rl2->H' rl2=some (.lst (A++B))->Q (.str (Str.ofString "ok")) H'
theorem Mr {X:Cx} {st:List Stmt}:PSs X st (fun _ _ _=>False):=fun _ _ _ _ _ _ h=>h.elim
theorem Abb:∀n,n<=12->((List.range n).map Q3).Nodup:=by decide +kernel
end L2
namespace Own
open PySem L2
section
variable {P:Program} {w:World} {K:Θf} {mg:Str->Option Value} {base:Heap}
seal PySem.wpAny
theorem Abt {f fWO fFM fRS fLE CD CST CTM:Addr} {fas:List Addr} {fd fdWO fdFM fdRS fdLE:FuncData} (F:Fun K "say" "Desk.say" Gi f fd) (GWO:FnOk P w K mg base CX0 1 fWO fdWO ["row"] (Z2 K)) (mWO:mg "words_of" = some (.ref fWO)) (kWO:Θk K fWO) (bWO:Binds K fdWO ["row"] []) (GFM:FnOk P w K mg base CX0 2 fFM fdFM ["words"] (Ca K fas)) (mFM:mg "form_of" = some (.ref fFM)) (kFM:Θk K fFM) (bFM:Binds K fdFM ["words"] []) (GRS:FnOk P w K mg base CX0 2 fRS fdRS ["names","text"] (fun vs H Q _=>Z1 K CST vs H Q fun _ _ _=>False)) (mRS:mg "read_set" = some (.ref fRS)) (kRS:Θk K fRS) (bRS:Binds K fdRS ["names","text"] []) (ML:Meth K CD "let" fLE) (GLE:FnOk P w K mg base (CX1 P w) 1 fLE fdLE ["self","rule"] (Ac3 K CD CTM)) (bLE:Binds K fdLE ["self","rule"] []) (zzip:mg "zip" = none) (fl:fas.length=12) (fone:∀(k:Nat) (f:Addr) (fs:List Str),fas[k]? = some f->formsL[k]? = some fs->∀H:Hp,SqT K H f (fs.map V.str)) (T:DK K CD):FnOk P w K mg base (CX1 P w) 3 f fd ["self","row"] (Kx CD CTM):=by
 refine F.ok1 scSay (fun vs H Q E h=>?_) (fun cdv A outer s H vs Q E hr h=>?_)
 ·obtain ⟨d,np,rl,nms,xs,st,x,y,rfl,_⟩:=h
  rfl
 ·obtain ⟨d,np,rl,nms,xs,st,x,y,rfl,hD,hn,NN,hrl,l12,ha,qe,qq⟩:=h
  have nd:=scSay.nd
  have hr1:Room 1 _:=hr.mono (by decide)
  have hr2:Room 2 _:=hr.mono (by decide)
  obtain ⟨dx,hd⟩:=hD
  refine ⟨_,(A2 (C0 (i:=2) nd rfl (Or.inl rfl) (A8 GWO hr1 rfl mWO kWO bWO .nil B2 (A0 (pv 1) A1))) (A2 (C0 (i:=3) nd rfl (Or.inl rfl) (A8 GFM hr2 rfl mFM kFM bFM .nil B2 (A0 (pv 2) A1))) (A2 (S8 (i:=4) (xs:=["place","word"]) (cs ["self","row","words","form","sets"] (A7 Gi) rfl rfl (by decide +kernel)) rfl nd rfl rfl (Es (K:=K) rfl (by rfl) zzip (A0 (pv 3) (A0 (pv 2) A1))) (fun _ _ _=>Er (K:=K) (n:=2) rfl rfl (E1 (C5 (i:=0) (show (["place","word","self","row","words","form","sets"]:List Str).Nodup by decide +kernel) rfl (Or.inl rfl)) (E1 (C5 (i:=1) (show (["place","word","self","row","words","form","sets"]:List Str).Nodup by decide +kernel) rfl (Or.inl rfl)) N4)) rfl rfl) (fun _ _ _=>(R1 (B1 op_eq (pv 0) B9 (C3 _)))) (fun _ _ _=>(A8 GRS hr2 rfl mRS kRS bRS .nil B2 (A0 (Q0 (K:=K) rfl (pv 2) rfl) (A0 (pv 1) A1))))) (A2 (D1 (B1 op_eq (C4 (C9 (K:=K) rfl) (pv 2) A5 (fun _ _=>rfl)) B9 (C3 _)) (A4 (A9 (Y6 (pv 0) T.cl ML GLE hr1 bLE .nil (Mp fun _ _ z=>z) (A0 (F2 (A0 (C4 (C9 (K:=K) rfl) (pv 2) A5 (fun _ _=>rfl)) (A0 (C4 (C9 (K:=K) rfl) (pv 4) A5 (fun _ _=>rfl)) (A0 (C4 (C9 (K:=K) rfl) (pv 4) A5 (fun _ _=>rfl)) A1)))) A1)))) C1) Mr)))),?_⟩
  refine ⟨_,rfl,_,rfl,Il NN ha,fun wp H1 s1 hw0 hw=>?_⟩
  rw [Im NN ha] at hw
  have few:=(Ew nms (.rlet st x y)).2
  have kl:Gd (.rlet st x y) < fas.length:=by rw [fl,<-U1]; exact (Ze_.mp (V0 nms (.rlet st x y))).1
  have ea:=Θh kl
  refine ⟨_,rfl,wp,fas[Gd (.rlet st x y)],M9 nms (.rlet st x y),_,Gd (.rlet st x y),rfl,SqL.of hw,by omega,ea,V0 nms (.rlet st x y),Mt nms (.rlet st x y),(fun j gs hj h=>Ge hj h),fun H2 s2=>?_⟩
  have hf:=fone _ _ _ ea (V0 nms (.rlet st x y))
  generalize fas[Gd (.rlet st x y)]=fa at hf
  have hw2:=s2 _ _ hw
  replace s2:=s1.trans s2
  have ep:(M1 nms (.rlet st x y)).length=(M9 nms (.rlet st x y)).length:=by unfold M9; rw [Θl]
  have m1:(((M1 nms (.rlet st x y)).map (·.1)).map V.str).length=(M1 nms (.rlet st x y)).length:=by rw [Θl,Θl]
  have m2:((M9 nms (.rlet st x y)).map V.str).length=(M1 nms (.rlet st x y)).length:=by rw [Θl,ep]
  refine ⟨_,rfl,_,rfl,fa,wp,_,_,rfl,hf _,SqL.of hw2,En (K:=K) (xs:=((M1 nms (.rlet st x y)).map (·.1)).map V.str) (ys:=(M9 nms (.rlet st x y)).map V.str) (n:=2) (fun j acc H'=>Same H H'/\Same H2 H'/\acc=((((M1 nms (.rlet st x y)).take j).filter fun p=>decide (p.1=J4)).map (·.2.2)).map vN) (by omega) (by omega) ⟨s2,Same.refl _,rfl⟩ (fun j acc H' hj h=>?_) (fun j vx vy acc H' t hx hy h ht=>?_) (fun acc H' h=>?_)⟩
  ·obtain ⟨s4,s5,rfl⟩:=h
   refine ⟨⟨hf _,SqL.of (s5 _ _ hw2)⟩,?_⟩
   rw [Θl,Θl]
   exact Zo_ (List.length_filter_le _ _) (List.length_take_le _ _)
  ·obtain ⟨s4,s5,rfl⟩:=h
   unfold M9 at hy
   rw [Θg,Θg] at hx hy
   cases e1:(M1 nms (.rlet st x y))[j]? with
   | none=>rw [e1] at hx; cases hx
   | some p=>
    rw [e1] at hx hy
    obtain rfl:=(Θo hx).symm
    obtain rfl:=(Θo hy).symm
    have s6:=Same.new (o:=.tup [V.str p.1,V.str p.2.1]) ht
    have s7:=s4.trans s6
    replace s6:=s5.trans s6
    refine ⟨t,_,rfl,SqT.of A3,rfl,_,_,rfl,_,_,rfl,rfl,rfl,?_⟩
    generalize upd H' t (.tup [V.str p.1,V.str p.2.1])=H5 at s6 s7
    have et:(M1 nms (.rlet st x y)).take (j + 1)=(M1 nms (.rlet st x y)).take j++[p]:=by rw [List.take_succ,e1]; rfl
    refine ⟨_,rfl,rfl,_,rfl,?_⟩
    rw [show decide (V.str p.1=V.str (Str.ofString "SET"))=decide (p.1=J4) from decide_eq_decide.mpr ⟨fun e=>by injection e,fun e=>by rw [e]; rfl⟩]
    refine E8 (fun hc=>?_) (fun hc=>?_)
    ·have e:=Zj_ hc
     obtain ⟨ew,lt⟩:=Yr ha p (Θe e1) e
     have fin:∀H6,Same H5 H6->Same H H6/\Same H2 H6/\(((((M1 nms (.rlet st x y)).take j).filter fun p=>decide (p.1=J4)).map (·.2.2)).map vN)++[vN p.2.2]=((((M1 nms (.rlet st x y)).take (j + 1)).filter fun p=>decide (p.1=J4)).map (·.2.2)).map vN:=fun H6 s8=>⟨s7.trans s8,s6.trans s8,by rw [et,List.filter_append,Zw_,Zw_,List.filter_cons_of_pos (by exact hc)]; rfl⟩
     refine ⟨_,rfl,d,CD,dx,_,_,rfl,s7 _ _ hd,T.cl,T.nN,rfl,_,rfl,np,nms,_,rfl,SqL.of (s7 _ _ hn),NN,?_⟩
     have sl:=F0 NN lt
     have sc:=J9 NN lt
     rw [show (fun x:Str × Str × Nat=>x.2.1) p=D3 nms p.2.2 from ew]
     refine ⟨by omega,(fun c hc'=>by have:=sc c hc'; omega),fun e0=>?_,fun z H6 s8 n0 hz es=>?_,fun no=>?_⟩
     ·rw [<-Dh NN lt e0]
      exact fin _ (Same.refl _)
     ·rw [Dg NN lt hz n0 es]
      exact fin _ s8
     ·exact absurd no (Ks NN lt)
    ·refine ⟨s7,s6,?_⟩
     rw [et,List.filter_append,List.filter_cons_of_neg (by exact hc),List.filter_nil,List.append_nil]
  obtain ⟨s4,s5,rfl⟩:=h
  rw [m1,List.take_length,show ((M1 nms (.rlet st x y)).filter fun p=>decide (p.1=J4)).map (·.2.2)=Hf nms (.rlet st x y) from rfl]
  intro l2 hl2
  have s6:=Same.new (o:=.lst ((Hf nms (.rlet st x y)).map vN)) hl2
  have h6:(upd H' l2 (.lst ((Hf nms (.rlet st x y)).map vN))) l2=some (.lst ((Hf nms (.rlet st x y)).map vN)):=A3
  have hw6:=s6 _ _ (s5 _ _ hw2)
  replace s6:=s4.trans s6
  generalize upd H' l2 (.lst ((Hf nms (.rlet st x y)).map vN))=H6 at s6 h6 hw6
  have hd6:=s6 _ _ hd
  refine ⟨_,rfl,wp,_,_,_,rfl,rfl,SqL.of hw6,A6 (j:=0) (v:=V.str Lx) rfl,rfl,_,rfl,N9 ?_⟩
  refine ⟨_,rfl,d,dx,_,rfl,hd6,rfl,_,rfl,wp,_,_,_,rfl,rfl,SqL.of hw6,A6 (j:=2) (v:=V.str (D6 st)) rfl,_,rfl,l2,_,_,_,rfl,rfl,SqL.of h6,A6 (j:=0) (v:=vN x) (by cases st <;> rfl),_,rfl,l2,_,_,_,rfl,rfl,SqL.of h6,A6 (j:=1) (v:=vN y) (by cases st <;> rfl),(by show 3<=sizeLine; decide),fun r hr0=>?_⟩
  have s7:=Same.new (o:=.tup [V.str (D6 st),vN x,vN y]) hr0
  have h7:E4 (upd H6 r (.tup [V.str (D6 st),vN x,vN y])) r st x y:=A3
  replace s7:=s6.trans s7
  generalize upd H6 r (.tup [V.str (D6 st),vN x,vN y])=H7 at s7 h7
  refine ⟨d,np,rl,r,xs,st,x,y,rfl,⟨dx,s7 _ _ hd⟩,s7 _ _ hrl,h7,ha.2.2,l12,fun hb H8 s8=>qe hb H8 (s7.trans s8),fun hb rl2 H8 B8 n8 hD8 h8=>qq hb r rl2 H8 (fun b o e hb'=>B8 b o (s7 _ _ e) hb') (s7.none n8) ?_ hD8 h8⟩
  have rd:r≠d:=fun e=>by
   have:=s7 _ _ hd
   unfold E4 at h7
   rw [<-e,h7] at this
   cases this
  exact B8 _ _ h7 rd
theorem Abs {f fWO fFM fRS fLE CD CST:Addr} {fas:List Addr} {fd fdWO fdFM fdRS fdLE:FuncData} (F:Fun K "say" "Desk.say" Gi f fd) (GWO:FnOk P w K mg base CX0 1 fWO fdWO ["row"] (Z2 K)) (mWO:mg "words_of" = some (.ref fWO)) (kWO:Θk K fWO) (bWO:Binds K fdWO ["row"] []) (GFM:FnOk P w K mg base CX0 2 fFM fdFM ["words"] (Ca K fas)) (mFM:mg "form_of" = some (.ref fFM)) (kFM:Θk K fFM) (bFM:Binds K fdFM ["words"] []) (GRS:FnOk P w K mg base CX0 2 fRS fdRS ["names","text"] (fun vs H Q _=>Z1 K CST vs H Q fun _ _ _=>False)) (mRS:mg "read_set" = some (.ref fRS)) (kRS:Θk K fRS) (bRS:Binds K fdRS ["names","text"] []) (ML:Meth K CD "drop" fLE) (GLE:FnOk P w K mg base CX0 1 fLE fdLE ["self","word"] (Zu K CD)) (bLE:Binds K fdLE ["self","word"] []) (zzip:mg "zip" = none) (fl:fas.length=12) (fone:∀(k:Nat) (f:Addr) (fs:List Str),fas[k]? = some f->formsL[k]? = some fs->∀H:Hp,SqT K H f (fs.map V.str)) (T:DK K CD):FnOk P w K mg base CX0 3 f fd ["self","row"] (Zy CD):=by
 refine F.ok scSay (fun vs H Q E h=>?_) (fun cdv A outer s H vs Q E hr h=>?_)
 ·obtain ⟨d,np,rl,nms,LA,LB,v,rfl,_⟩:=h
  rfl
 ·obtain ⟨d,np,rl,nms,LA,LB,v,rfl,hD,hn,NN,hrl,l12,qq⟩:=h
  have nd:=scSay.nd
  have ha:Fd nms.length (.rdrop LA.length):=by
   show LA.length < 12
   rw [Zv_,ZA] at l12
   omega
  have hr1:Room 1 _:=hr.mono (by decide)
  have hr2:Room 2 _:=hr.mono (by decide)
  obtain ⟨dx,hd⟩:=hD
  refine ⟨_,(A2 (C0 (i:=2) nd rfl (Or.inl rfl) (A8 GWO hr1 rfl mWO kWO bWO .nil B2 (A0 (pv 1) A1))) (A2 (C0 (i:=3) nd rfl (Or.inl rfl) (A8 GFM hr2 rfl mFM kFM bFM .nil B2 (A0 (pv 2) A1))) (A2 (S8 (i:=4) (xs:=["place","word"]) (cs ["self","row","words","form","sets"] (A7 Gi) rfl rfl (by decide +kernel)) rfl nd rfl rfl (Es (K:=K) rfl (by rfl) zzip (A0 (pv 3) (A0 (pv 2) A1))) (fun _ _ _=>Er (K:=K) (n:=2) rfl rfl (E1 (C5 (i:=0) (show (["place","word","self","row","words","form","sets"]:List Str).Nodup by decide +kernel) rfl (Or.inl rfl)) (E1 (C5 (i:=1) (show (["place","word","self","row","words","form","sets"]:List Str).Nodup by decide +kernel) rfl (Or.inl rfl)) N4)) rfl rfl) (fun _ _ _=>(R1 (B1 op_eq (pv 0) B9 (C3 _)))) (fun _ _ _=>(A8 GRS hr2 rfl mRS kRS bRS .nil B2 (A0 (Q0 (K:=K) rfl (pv 2) rfl) (A0 (pv 1) A1))))) (A2 (D1 (B1 op_eq (C4 (C9 (K:=K) rfl) (pv 2) A5 (fun _ _=>rfl)) B9 (C3 _)) (A4 M8) C1) (A2 (D1 (B1 op_eq (C4 (C9 (K:=K) rfl) (pv 2) A5 (fun _ _=>rfl)) B9 (C3 _)) (A4 (A9 (Y6 (pv 0) T.cl ML GLE hr1 bLE .nil B2 (A0 (C4 (C9 (K:=K) rfl) (pv 2) A5 (fun _ _=>rfl)) A1)))) C1) Mr))))),?_⟩
  refine ⟨_,rfl,_,rfl,Il NN ha,fun wp H1 s1 hw0 hw=>?_⟩
  rw [Im NN ha] at hw
  have few:=(Ew nms (.rdrop LA.length)).2
  have kl:Gd (.rdrop LA.length) < fas.length:=by rw [fl,<-U1]; exact (Ze_.mp (V0 nms (.rdrop LA.length))).1
  have ea:=Θh kl
  refine ⟨_,rfl,wp,fas[Gd (.rdrop LA.length)],M9 nms (.rdrop LA.length),_,Gd (.rdrop LA.length),rfl,SqL.of hw,by omega,ea,V0 nms (.rdrop LA.length),Mt nms (.rdrop LA.length),(fun j gs hj h=>Ge hj h),fun H2 s2=>?_⟩
  have hf:=fone _ _ _ ea (V0 nms (.rdrop LA.length))
  generalize fas[Gd (.rdrop LA.length)]=fa at hf
  have hw2:=s2 _ _ hw
  replace s2:=s1.trans s2
  have ep:(M1 nms (.rdrop LA.length)).length=(M9 nms (.rdrop LA.length)).length:=by unfold M9; rw [Θl]
  have m1:(((M1 nms (.rdrop LA.length)).map (·.1)).map V.str).length=(M1 nms (.rdrop LA.length)).length:=by rw [Θl,Θl]
  have m2:((M9 nms (.rdrop LA.length)).map V.str).length=(M1 nms (.rdrop LA.length)).length:=by rw [Θl,ep]
  refine ⟨_,rfl,_,rfl,fa,wp,_,_,rfl,hf _,SqL.of hw2,En (K:=K) (xs:=((M1 nms (.rdrop LA.length)).map (·.1)).map V.str) (ys:=(M9 nms (.rdrop LA.length)).map V.str) (n:=2) (fun j acc H'=>Same H H'/\Same H2 H'/\acc=((((M1 nms (.rdrop LA.length)).take j).filter fun p=>decide (p.1=J4)).map (·.2.2)).map vN) (by omega) (by omega) ⟨s2,Same.refl _,rfl⟩ (fun j acc H' hj h=>?_) (fun j vx vy acc H' t hx hy h ht=>?_) (fun acc H' h=>?_)⟩
  ·obtain ⟨s4,s5,rfl⟩:=h
   refine ⟨⟨hf _,SqL.of (s5 _ _ hw2)⟩,?_⟩
   rw [Θl,Θl]
   exact Zo_ (List.length_filter_le _ _) (List.length_take_le _ _)
  ·obtain ⟨s4,s5,rfl⟩:=h
   unfold M9 at hy
   rw [Θg,Θg] at hx hy
   cases e1:(M1 nms (.rdrop LA.length))[j]? with
   | none=>rw [e1] at hx; cases hx
   | some p=>
    rw [e1] at hx hy
    obtain rfl:=(Θo hx).symm
    obtain rfl:=(Θo hy).symm
    have s6:=Same.new (o:=.tup [V.str p.1,V.str p.2.1]) ht
    have s7:=s4.trans s6
    replace s6:=s5.trans s6
    refine ⟨t,_,rfl,SqT.of A3,rfl,_,_,rfl,_,_,rfl,rfl,rfl,?_⟩
    generalize upd H' t (.tup [V.str p.1,V.str p.2.1])=H5 at s6 s7
    have et:(M1 nms (.rdrop LA.length)).take (j + 1)=(M1 nms (.rdrop LA.length)).take j++[p]:=by rw [List.take_succ,e1]; rfl
    refine ⟨_,rfl,rfl,_,rfl,?_⟩
    rw [show decide (V.str p.1=V.str (Str.ofString "SET"))=decide (p.1=J4) from decide_eq_decide.mpr ⟨fun e=>by injection e,fun e=>by rw [e]; rfl⟩]
    refine E8 (fun hc=>?_) (fun hc=>?_)
    ·have e:=Zj_ hc
     obtain ⟨ew,lt⟩:=Yr ha p (Θe e1) e
     have fin:∀H6,Same H5 H6->Same H H6/\Same H2 H6/\(((((M1 nms (.rdrop LA.length)).take j).filter fun p=>decide (p.1=J4)).map (·.2.2)).map vN)++[vN p.2.2]=((((M1 nms (.rdrop LA.length)).take (j + 1)).filter fun p=>decide (p.1=J4)).map (·.2.2)).map vN:=fun H6 s8=>⟨s7.trans s8,s6.trans s8,by rw [et,List.filter_append,Zw_,Zw_,List.filter_cons_of_pos (by exact hc)]; rfl⟩
     refine ⟨_,rfl,d,CD,dx,_,_,rfl,s7 _ _ hd,T.cl,T.nN,rfl,_,rfl,np,nms,_,rfl,SqL.of (s7 _ _ hn),NN,?_⟩
     have sl:=F0 NN lt
     have sc:=J9 NN lt
     rw [show (fun x:Str × Str × Nat=>x.2.1) p=D3 nms p.2.2 from ew]
     refine ⟨by omega,(fun c hc'=>by have:=sc c hc'; omega),fun e0=>?_,fun z H6 s8 n0 hz es=>?_,fun no=>?_⟩
     ·rw [<-Dh NN lt e0]
      exact fin _ (Same.refl _)
     ·rw [Dg NN lt hz n0 es]
      exact fin _ s8
     ·exact absurd no (Ks NN lt)
    ·refine ⟨s7,s6,?_⟩
     rw [et,List.filter_append,List.filter_cons_of_neg (by exact hc),List.filter_nil,List.append_nil]
  obtain ⟨s4,s5,rfl⟩:=h
  rw [m1,List.take_length,show ((M1 nms (.rdrop LA.length)).filter fun p=>decide (p.1=J4)).map (·.2.2)=Hf nms (.rdrop LA.length) from rfl]
  intro l2 hl2
  have s6:=Same.new (o:=.lst ((Hf nms (.rdrop LA.length)).map vN)) hl2
  have h6:(upd H' l2 (.lst ((Hf nms (.rdrop LA.length)).map vN))) l2=some (.lst ((Hf nms (.rdrop LA.length)).map vN)):=A3
  have hw6:=s6 _ _ (s5 _ _ hw2)
  replace s6:=s4.trans s6
  generalize upd H' l2 (.lst ((Hf nms (.rdrop LA.length)).map vN))=H6 at s6 h6 hw6
  have hd6:=s6 _ _ hd
  refine ⟨_,rfl,wp,_,_,_,rfl,rfl,SqL.of hw6,A6 (j:=0) (v:=V.str Hr) rfl,rfl,_,rfl,E7 ?_⟩
  refine ⟨_,rfl,wp,_,_,_,rfl,rfl,SqL.of hw6,A6 (j:=0) (v:=V.str Hr) rfl,rfl,_,rfl,N9 ?_⟩
  exact ⟨_,rfl,d,dx,_,rfl,hd6,rfl,_,rfl,wp,_,_,_,rfl,rfl,SqL.of hw6,A6 (j:=1) (v:=V.str (Q3 LA.length)) rfl,d,np,rl,LA,LB,v,rfl,⟨dx,hd6⟩,s6 _ _ hrl,l12,fun rl2 H8 B8 n8 hD8 h8=>qq rl2 H8 (fun b o e hb'=>B8 b o (s6 _ _ e) hb') (s6.none n8) hD8 h8⟩
end
end Own
namespace L2
open PySem PySem.Spec PyProof.Rows
section
variable {X:Cx} {k:Nat} {f C:Addr} {fd:FuncData} {ps:List Str} {sp:Sp} {m:Str} {ap apos pos:Pos} {o e:Expr} {es:List Expr} {ta:TE} {t:TA} {pl:Sem Bool}
theorem Yn (he:∀E',PE (X.wish E') o ta) (c:Cls X.K C) (hm:Meth X.K C m f) (F:FnOk X.prog X.w X.K X.mg X.base (CX1 X.prog X.w) k f fd ps sp) (hr:Room k X.A) (hb:Binds X.K fd ps [])
  (ha:∀E',PA (X.wish E') (e :: es) t) (hst:starEach (e :: es) X.env=(false,eval e X.env) :: starEach es X.env:=by rfl) (hpl:(backTo pos (starEach es X.env)).any (·.1)=false:=by rfl)
  (ht:eval (.Call (.Attribute o m apos) (e :: es) [] pos) X.env=(do
   let ov <-eval o X.env
   standAt apos.atName
   let (f,first) <-holding [ov] (getMethod ov m pl)
   callWith pos f first (backTo pos (starEach (e :: es) X.env)) (backToKw pos (keywordEach [] X.env))):=by rfl)
  (hs:swapsWith (.Call (.Attribute o m apos) (e :: es) [] pos) none ap.line X.env=pure false:=by rfl) :
  Ac7 X [.Expr (.Call (.Attribute o m apos) (e :: es) [] pos) ap] (fun N E σ H=>ta σ H fun x H1=>∃a dx fs,x = .ref a/\H1 a=some (.ins C dx fs)/\fs.lookup m=none/\t σ H1 fun vs H2=>sp (x :: vs) H2 (fun _ H3=>N σ H3) (E σ)):=by
 intro pins s σ H N E I h
 let EE:Value->Shared->Prop:=fun e s'=>∃σ' H1 s1,Inv X pins σ' H1 s1/\CX1 X.prog X.w X.stack H1 s1 (E σ') e s'
 refine wpAny_execs_cons (wpAny_Expr_any (PySem.W.methodCall_KW (pl:=pl) (thn (he EE pins s σ H _ (I.wish _) h) fun u s1 h1=>?_) ht) I.quiet hs)
 obtain ⟨x,H1,I1,rx,a,dx,fs,ex,ea,l,q⟩:=h1
 subst ex
 obtain rfl:u=Value.ref a:=rx
 refine Ah I1.unwish ea c hm l ?_
 refine PySem.W.callWith_K (first:=[.ref a]) (h₀:=X.base) I.ok.mod.kin hm.kp (thn (ha EE pos pins s1 σ H1 _ I1 q) fun us s2 h2=>?_) hst hpl
 obtain ⟨vs,H2,I2,r,q2⟩:=h2
 replace I2:=I2.unwish
 refine ⟨I2.kIn,?_⟩
 have r2:Vals (V.ref a :: vs) (Value.ref a :: us):=.cons rfl r
 have hl:(Value.ref a :: us++[]).length=ps.length:=by rw [List.append_nil,<-r2.length]; exact F.len _ _ _ _ q2
 have hb2:=hb s2 (Value.ref a :: us) I2.kIn hl
 rw [List.append_nil] at hb2
 refine wpAny_call (codeAny_mono (F.run X.A X.stack s2 H2 ⟨Value.ref a :: us,[]⟩ (Value.ref a :: us) _ _ _ hr I2.env0 hb2 r2 q2) fun r s' hq=>?_)
 cases r with
 | error e=>exact ⟨σ,H2,s2,I2,hq⟩
 | ok fl=>
  cases fl with
  | ret u=>
   obtain ⟨v,H3,I3,r3,q3⟩:=I2.after hq
   exact wpAny_execs_nil ⟨rfl,σ,H3,I3,q3⟩
  | next=>exact False.elim hq
  | brk=>exact False.elim hq
  | cont=>exact False.elim hq
end
noncomputable def Zs (K:Θf) (CD:Addr):Sp:=fun vs H Q _=>∃(d np rl:Addr) (nms:List Str) (rs:List Rl) (a:Ask),vs=[.ref d,.str (Str.join C8 (O2 nms a))]/\DeskAt H CD d np rl/\H np=some (.lst (nms.map V.str))/\NM nms/\SqL K H rl (rs.map fun r=>V.ref r.r)/\RulesAt H nms.length rs/\rs.length<=12/\W5 nms.length a/\∀H',Same H H'->Q (Ag5 (Sn nms (rs.map Rl.d) a)) H'
noncomputable def Rs (CD:Addr):Sp:=fun vs H Q _=>∃(d np rl:Addr) (nms:List Str) (xs:List V) (st:Bool) (x y:Nat),vs=[.ref d,.str (Str.join C8 (M9 nms (.rlet st x y)))]/\DeskAt H CD d np rl/\H np=some (.lst (nms.map V.str))/\NM nms/\H rl=some (.lst xs)/\xs.length=12/\Fd nms.length (.rlet st x y)/\∀H',Same H H'->Q (.bl true) H'
noncomputable def Aff (nms:List Str) (ts:List Str):Prop:=∀t∈ts,∃a,W5 nms.length a/\t=Str.join C8 (O2 nms a)
noncomputable def Ps (K:Θf) (CD:Addr):Sp:=fun vs H Q _=>∃(d dn dl np rl ro:Addr) (nms:List Str) (ks rs:List Rl) (ts:List Str),vs=[.ref d,.ref np,.ref rl,.ref ro]/\DeskAt H CD d dn dl/\H dn=some (.lst (nms.map V.str))/\SqL K H dl (ks.map fun r=>V.ref r.r)/\RulesAt H nms.length ks/\ks.map Rl.d=rs.map Rl.d/\
 H np=some (.lst (nms.map V.str))/\NM nms/\NW nms/\SqL K H rl (rs.map fun r=>V.ref r.r)/\RulesAt H nms.length rs/\(∀r∈rs,r.y≠0)/\rs.length<=12/\SqL K H ro (ts.map V.str)/\ts.length<=100/\Aff nms ts/\∀H',Same H H'->Q (.bl true) H'
end L2
namespace Own
open PySem L2
section
variable {P:Program} {w:World} {K:Θf} {mg:Str->Option Value} {base:Heap}
seal PySem.wpAny
noncomputable abbrev Aet:Stmt:=top 94
theorem scAns:FnScope ["_law_desk","_law_row","_law_told"] ["_law_desk","_law_row"] (A7 Aet):=⟨rfl,rfl,rfl,by decide +kernel,rfl,by decide +kernel,by decide +kernel⟩
theorem Ad1 {f fSY CD CTM:Addr} {fd fdSY:FuncData} (F:Fun K "_law_answer" "_law_answer" Aet f fd) (mTM:mg "TooMany" = some (.ref CTM)) (xTM:PySem.W.exmOne K (.ref CTM) (.ref CTM)=some true) (T:DK K CD) (MS:Meth K CD "say" fSY) (GSY:FnOk P w K mg base (CX1 P w) 137 fSY fdSY ["self","row"] (Zx K CD CTM)) (bSY:Binds K fdSY ["self","row"] []):FnOk P w K mg base CX0 138 f fd ["_law_desk","_law_row"] (Zs K CD):=by
 refine F.ok scAns (fun vs H Q E h=>?_) (fun cdv A outer s H vs Q E hr h=>?_)
 ·obtain ⟨d,np,rl,nms,rs,a,rfl,_⟩:=h
  rfl
 ·obtain ⟨d,np,rl,nms,rs,a,rfl,hD,hn,NN,hrl,hR,l12,ha,q⟩:=h
  have nd:=scAns.nd
  have hrS:Room 137 _:=hr.mono (by decide)
  refine ⟨_,(A2 (C0 (i:=2) nd rfl (Or.inl rfl) F5)
   (A2 (Mq (Ab6 (i:=2) (fun _=>pv 0) T.cl MS GSY hrS bSY (fun _=>(A0 (pv 1) A1)) nd rfl (Or.inl rfl)) (fun _=>A4 (C0 (i:=2) nd rfl (Or.inl rfl) F5)) (by rfl) mTM rfl rfl)
   (A4 (A9 (pv 2))))),?_⟩
  obtain ⟨dx,hd⟩:=id hD
  refine ⟨_,rfl,d,dx,_,rfl,hd,rfl,_,rfl,d,np,rl,nms,rs,a,rfl,hD,hn,NN,hrl,hR,l12,ha,fun t et H1 s1=>?_,fun en H1 s1=>⟨CTM,rfl,xTM,fun ea hea=>?_⟩⟩
  ·have:=q H1 s1
   rw [et] at this
   exact ⟨_,rfl,this⟩
  ·have:=q _ (s1.trans (Same.new (o:=Adm ea CTM) hea))
   rw [en] at this
   exact ⟨_,rfl,this⟩
noncomputable abbrev Za:Stmt:=top 92
theorem scFull:FnScope ["_law_desk","_law_row","_law_full_here"] ["_law_desk","_law_row"] (A7 Za):=⟨rfl,rfl,rfl,by decide +kernel,rfl,by decide +kernel,by decide +kernel⟩
theorem Abm {f fSY CD CTM:Addr} {fd fdSY:FuncData} (F:Fun K "_law_full" "_law_full" Za f fd) (mTM:mg "TooMany" = some (.ref CTM)) (xTM:PySem.W.exmOne K (.ref CTM) (.ref CTM)=some true) (T:DK K CD) (MS:Meth K CD "say" fSY) (GSL:FnOk P w K mg base (CX1 P w) 3 fSY fdSY ["self","row"] (Kx CD CTM)) (bSY:Binds K fdSY ["self","row"] []):FnOk P w K mg base CX0 4 f fd ["_law_desk","_law_row"] (Rs CD):=by
 refine F.ok scFull (fun vs H Q E h=>?_) (fun cdv A outer s H vs Q E hr h=>?_)
 ·obtain ⟨d,np,rl,nms,xs,st,x,y,rfl,_⟩:=h
  rfl
 ·obtain ⟨d,np,rl,nms,xs,st,x,y,rfl,hD,hn,NN,hrl,l12,ha,q⟩:=h
  have nd:=scFull.nd
  have hrS:Room 3 _:=hr.mono (by decide)
  refine ⟨_,(A2 (C0 (i:=2) nd rfl (Or.inl rfl) Q7)
   (A2 (Mq (Yn (fun _=>pv 0) T.cl MS GSL hrS bSY (fun _=>(A0 (pv 1) A1))) (fun _=>A4 (C0 (i:=2) nd rfl (Or.inl rfl) Q7)) (by rfl) mTM rfl rfl)
   (A4 (A9 (pv 2))))),?_⟩
  obtain ⟨dx,hd⟩:=id hD
  refine ⟨_,rfl,d,dx,_,rfl,hd,rfl,_,rfl,d,np,rl,nms,xs,st,x,y,rfl,hD,hn,NN,hrl,by omega,ha,fun _ H1 s1=>⟨CTM,rfl,xTM,fun ea hea=>?_⟩,fun lt=>absurd lt (by omega)⟩
  exact ⟨_,rfl,q _ (s1.trans (Same.new hea))⟩
end
end Own
namespace Own
open PySem L2
section
variable {P:Program} {w:World} {K:Θf} {mg:Str->Option Value} {base:Heap}
seal PySem.wpAny
noncomputable abbrev Ez:Stmt:=top 59
theorem scIsName:FnScope ["word"] ["word"] (A7 Ez):=⟨rfl,rfl,rfl,by decide +kernel,rfl,by decide +kernel,by decide +kernel⟩
theorem Ua {f RWA:Addr} {fd:FuncData} {tkLN tkLE:PySem.Tok} (F:Fun K "is_name" "is_name" Ez f fd) (mLN:mg "LONGEST_NAME" = some (.int 8 tkLN)) (mLE:mg "LETTERS" = some (.str letS tkLE)) (mRWW:mg "RULE_WORDS" = some (.ref RWA)) (hRW:RWT K RWA) (zlen:mg "len" = none) (zall:mg "all" = none):FnOk P w K mg base CX0 1 f fd ["word"] Na:=by
 refine F.ok scIsName (fun vs H Q E h=>?_) (fun cdv A outer s H vs Q E hr h=>?_)
 ·obtain ⟨z,rfl,_⟩:=h
  rfl
 ·obtain ⟨z,rfl,⟨lz,az⟩,q⟩:=h
  have nd:=scIsName.nd
  have sz:=sizeLine_eq
  refine ⟨_,(A2 (D1 (PW.pt (Bp (B1 op_eq (pv 0) B9 (C3 _)) (Bp (B1 T5 (D2 (Vo) (by rfl) zlen PySem.boot_len (A0 (pv 0) A1)) (L8 (v:=vN 8) (by rfl) mLN ⟨_,rfl⟩) (C3 _)) (Db (B1 (Ju (K:=K) rfl) (pv 0) (L8 (v:=.ref RWA) (by rfl) mRWW rfl) (by rfl)))))) (A4 (A9 Q7)) C1)
   (A4 (A9 (D2 (Cn (K:=K) rfl rfl) (by rfl) zall PyProof.Rows.boot_all (A0 (K0 (xs:=["sign"]) (cs ["word"] (A7 Ez) rfl rfl (by decide +kernel)) rfl (Ael (pv 0)) (fun _ _ _=>C5 (i:=0) (show (["sign","word"]:List Str).Nodup by decide +kernel) rfl (Or.inl rfl)) (fun _ _ _=>K5) (fun _ _ _=>(P3 Ui (pv 0) (L8 (v:=.str letS) (by rfl) mLE ⟨_,rfl⟩) (by rfl)))) A1))))),?_⟩
  refine ⟨_,rfl,rfl,_,rfl,?_⟩
  refine E8 (fun h0=>?_) (fun h0=>?_)
  ·refine N9 ?_
   have e:z=noS:=by
    have:=Zj_ h0
    injection this
   have:=q H (Same.refl _)
   rw [e] at this
   exact this
  have z1:1<=z.length:=Nat.pos_of_ne_zero fun e=>h0 (Zr_ (by
   have:z=noS:=by
    cases z with | mk a=>
    have e':a.size=0:=e
    rw [Array.eq_empty_of_size_eq_zero e']; rfl
   rw [this]; rfl))
  refine ⟨_,rfl,_,_,rfl,⟨by omega,rfl⟩,z.length,8,rfl,rfl,_,rfl,?_⟩
  refine E8 (fun h8=>?_) (fun h8=>?_)
  ·refine N9 ?_
   have e:W1 z=false:=by
    unfold W1
    rw [decide_eq_false (p:=z.length<=8) (by have:=Zj_ h8; omega)]
    simp
   rw [<-e]
   exact q H (Same.refl _)
  have z8:z.length<=8:=Nat.le_of_not_lt fun c=>h8 (Zr_ c)
  refine ⟨_,rfl,RWA,_,rfl,.inr (hRW _),rfl,rfl,_,rfl,?_⟩
  rw [if_neg Zf_,Wq]
  refine E8 (fun hw=>?_) (fun hw=>?_)
  ·have e:W1 z=false:=by
    unfold W1
    rw [hw]
    simp
   rw [<-e]
   exact q H (Same.refl _)
  have hw:Eg z=false:=Bool.eq_false_iff.mpr hw
  refine ⟨_,rfl,z,rfl,az,Adv (fun i acc H'=>H' = H/\acc=((z.cps.toList.take i).map Tl).map V.bl) (by omega) ⟨rfl,rfl⟩ (fun i acc H' hi h=>?_) (fun i c acc H' hc h=>?_) (fun acc H' h=>?_)⟩
  ·obtain ⟨rfl,rfl⟩:=h
   rw [Θl,Θl]
   exact List.length_take_le _ _
  ·obtain ⟨rfl,rfl⟩:=h
   refine ⟨rfl,_,rfl,_,_,rfl,rfl,rfl,?_⟩
   rw [Ob c (az c (Θe hc)),List.take_succ,hc,Zw_,Zw_]
   rfl
  obtain ⟨rfl,rfl⟩:=h
  intro l hl
  refine ⟨l,(z.cps.toList.take z.length).map Tl,rfl,SqL.of A3,?_⟩
  have e:((z.cps.toList.take z.length).map Tl).all id=W1 z:=by
   have et:z.cps.toList.take z.length=z.cps.toList:=List.take_of_length_le (by rw [Zz_]; exact Zd_ _)
   unfold W1
   rw [et,hw,Zr_ z1,Zr_ z8,List.all_map]
   rfl
  rw [e]
  exact q _ (Same.new hl)
noncomputable abbrev Y7:Stmt:=top 60
theorem scAreNames:FnScope ["words"] ["words"] (A7 Y7):=⟨rfl,rfl,rfl,by decide +kernel,rfl,by decide +kernel,by decide +kernel⟩
theorem Mi {f fISN:Addr} {fd fdISN:FuncData} {tkMC:PySem.Tok} (F:Fun K "are_names" "are_names" Y7 f fd) (GISN:FnOk P w K mg base CX0 1 fISN fdISN ["word"] Na) (mISN:mg "is_name" = some (.ref fISN)) (kISN:Θk K fISN) (bISN:Binds K fdISN ["word"] []) (mMC:mg "MOST_COLUMNS" = some (.int 7 tkMC)) (zlen:mg "len" = none) (zall:mg "all" = none) (zset:mg "set" = none):FnOk P w K mg base CX0 2 f fd ["words"] (Gn K):=by
 refine F.ok scAreNames (fun vs H Q E h=>?_) (fun cdv A outer s H vs Q E hr h=>?_)
 ·obtain ⟨wp,ws,rfl,_⟩:=h
  rfl
 ·obtain ⟨wp,ws,rfl,hw,lw,aw,q⟩:=h
  have nd:=scAreNames.nd
  have hr1:Room 1 _:=hr.mono (by decide)
  have lm:(ws.map V.str).length=ws.length:=Θl ..
  refine ⟨_,(A2 (D1 (PW.pt (Bp (B1 (Yf (K:=K) rfl hr.units) (pv 0) (E5 A1) (C3 _)) (Bp (B1 T5 (D2 (D9 (K:=K) rfl) (by rfl) zlen PySem.boot_len (A0 (pv 0) A1)) (L8 (v:=vN 7) (by rfl) mMC ⟨_,rfl⟩) (C3 _)) (Db (B1 Fx (D2 Nt (by rfl) zlen PySem.boot_len (A0 (O8 (Sw (K:=K) rfl rfl) (by rfl) zset PyProof.Rows.boot_set (A0 (pv 0) A1)) A1)) (D2 (D9 (K:=K) rfl) (by rfl) zlen PySem.boot_len (A0 (pv 0) A1)) (C3 _)))))) (A4 (A9 Q7)) C1)
   (A4 (A9 (D2 (Cn (K:=K) rfl rfl) (by rfl) zall PyProof.Rows.boot_all (A0 (K0 (xs:=["word"]) (cs ["words"] (A7 Y7) rfl rfl (by decide +kernel)) rfl (E3 (K:=K) rfl (pv 0)) (fun _ _ _=>C5 (i:=0) (show (["word","words"]:List Str).Nodup by decide +kernel) rfl (Or.inl rfl)) (fun _ _ _=>K5) (fun _ _ _=>(A8 GISN hr1 rfl mISN kISN bISN .nil B2 (A0 (pv 0) A1)))) A1))))),?_⟩
  refine ⟨_,rfl,(by show 0<=sizeLine; decide),fun e0 he0=>?_⟩
  have s1:=Same.new (o:=.lst []) he0
  have h0:(upd H e0 (.lst [])) e0=some (.lst []):=A3
  generalize upd H e0 (.lst [])=H1 at s1 h0
  refine ⟨.list (ws.map PyData.str),.list (([]:List Str).map PyData.str),.lst (s1.seq hw) (Ky ws),.lst (SqL.of h0) .nil,S9 (fun w hw c hc=>Nat.lt_trans ((aw w hw).2 c hc) (by decide)),S9 (fun w hw=>absurd hw Zi_),Fv Mg _ _,_,rfl,?_⟩
  rw [if_neg Zf_,Ip Rn]
  refine E8 (fun hc=>?_) (fun hc=>?_)
  ·refine N9 ?_
   have e:ws=[]:=Zj_ hc
   have e2:R8 ws=false:=by rw [e]; rfl
   rw [<-e2]
   exact q _ s1
  have w0:ws≠[]:=fun e=>hc (Zr_ e)
  refine ⟨_,rfl,wp,_,rfl,.inl (s1.seq hw),(ws.map V.str).length,7,rfl,rfl,_,rfl,?_⟩
  rw [lm]
  refine E8 (fun hc=>?_) (fun hc=>?_)
  ·refine N9 ?_
   have e2:R8 ws=false:=by
    unfold R8
    rw [decide_eq_false (p:=ws.length<=7) (by have:=Zj_ hc; omega)]
    simp
   rw [<-e2]
   exact q _ s1
  have w7:ws.length<=7:=Nat.le_of_not_lt fun c=>hc (Zr_ c)
  refine ⟨_,rfl,wp,ws,rfl,s1.seq hw,by omega,fun l hl=>?_⟩
  have s2:=s1.trans (Same.new (o:=ssO P w l (L4 ws).length) hl)
  have hl2:(upd H1 l (ssO P w l (L4 ws).length)) l=some (ssO P w l (L4 ws).length):=A3
  have dl:=Lp ws
  refine ⟨l,(L4 ws).length,rfl,hl2,by omega,_,rfl,wp,_,rfl,.inl (s2.seq hw),(L4 ws).length,(ws.map V.str).length,rfl,rfl,_,rfl,?_⟩
  rw [lm]
  have hgen:∀H2:Hp,H2=upd H1 l (ssO P w l (L4 ws).length)->Same H H2:=fun H2 e=>by rw [e]; exact s2
  generalize hHH:upd H1 l _=H2
  replace s2:=hgen H2 hHH.symm
  clear hgen hHH hl2
  refine E8 (fun hc=>?_) (fun hc=>?_)
  ·have e2:R8 ws=false:=by
    unfold R8
    rw [decide_eq_false (p:=ws.Nodup) (fun z=>by have:=Zj_ hc; have:=dl.2.mpr z; omega)]
    simp
   rw [<-e2]
   exact q _ s2
  have wn:ws.Nodup:=dl.2.mp (by have:¬(L4 ws).length < ws.length:=fun c=>hc (Zr_ c); omega)
  refine ⟨_,rfl,wp,rfl,⟨_,s2.seq hw⟩,L6 (K:=K) (xs:=ws.map V.str) (fun j acc H'=>Same H H'/\acc=((ws.take j).map W1).map V.bl) (by omega) ⟨s2,rfl⟩ (fun j acc H' hj h=>?_) (fun j v acc H' hv h=>?_) (fun acc H' h=>?_)⟩
  ·obtain ⟨s3,rfl⟩:=h
   exact ⟨s3.seq hw,by rw [Θl,Θl]; exact List.length_take_le _ _⟩
  ·obtain ⟨s3,rfl⟩:=h
   rw [Θg] at hv
   cases ec:ws[j]? with
   | none=>rw [ec] at hv; cases hv
   | some x=>
    rw [ec] at hv
    obtain rfl:=(Θo hv).symm
    refine ⟨rfl,_,rfl,x,rfl,aw x (Θe ec),fun H4 s4=>⟨s3.trans s4,?_⟩⟩
    rw [List.take_succ,ec,Zw_,Zw_]
    rfl
  obtain ⟨s3,rfl⟩:=h
  rw [lm,List.take_length]
  intro l2 hl2
  refine ⟨l2,ws.map W1,rfl,SqL.of A3,?_⟩
  have e2:(ws.map W1).all id=R8 ws:=by
   unfold R8
   rw [Zr_ w7,Zr_ wn,List.all_map,show ws.isEmpty=false from List.isEmpty_eq_false_iff.mpr w0]
   rfl
  rw [e2]
  exact q _ (s3.trans (Same.new hl2))
noncomputable abbrev Aev:Stmt:=top 63
theorem scFRW:FnScope ["words","at","word"] ["words"] (A7 Aev):=⟨rfl,rfl,rfl,by decide +kernel,rfl,by decide +kernel,by decide +kernel⟩
theorem Ad4 {f RWA:Addr} {fd:FuncData} (F:Fun K "first_rule_word" "first_rule_word" Aev f fd) (mRWW:mg "RULE_WORDS" = some (.ref RWA)) (hRW:RWT K RWA) (zenumerate:mg "enumerate" = none):FnOk P w K mg base CX0 1 f fd ["words"] (Ac1 K):=by
 refine F.ok scFRW (fun vs H Q E h=>?_) (fun cdv A outer s H vs Q E hr h=>?_)
 ·obtain ⟨wp,ws,rfl,_⟩:=h
  rfl
 ·obtain ⟨wp,ws,rfl,hw,lw,q1,q0⟩:=h
  have nd:=scFRW.nd
  have lm:(ws.map V.str).length=ws.length:=Θl ..
  refine ⟨_,(A2 (K7 PassesOwn.never rfl (Bn (K:=K) rfl rfl zenumerate (A0 (pv 0) A1)) (T6 rfl (E1 (C5 (i:=1) nd rfl (Or.inl rfl)) (E1 (C5 (i:=2) nd rfl (Or.inl rfl)) N4))) (A4 (D1 (B1 (Ju (K:=K) rfl) (pv 2) (L8 (v:=.ref RWA) (by rfl) mRWW rfl) (by rfl)) (A4 (A9 (pv 1))) C1)))
   (A4 (A9 F5))),?_⟩
  refine ⟨_,rfl,wp,_,rfl,hw,W6 (xs:=ws.map V.str) (fun i σ H'=>(∃v1 v2,σ=[some (.ref wp),v1,v2])/\Same H H'/\∀v∈ws.take i,Eg v=false) ⟨⟨_,_,rfl⟩,Same.refl _,fun v hv=>by rw [List.take_zero] at hv; cases hv⟩ (fun i σ H' _ h=>h.2.1.seq hw) ?_ ?_⟩
  ·rintro i v σ H' t hv ⟨⟨v1,v2,rfl⟩,s1,hno⟩ ht
   rw [Θg] at hv
   cases ec:ws[i]? with
   | none=>rw [ec] at hv; cases hv
   | some x=>
    rw [ec] at hv
    obtain rfl:=(Θo hv).symm
    refine ⟨t,_,rfl,SqT.of A3,rfl,_,_,rfl,_,_,rfl,rfl,?_⟩
    have s2:=s1.trans (Same.new (o:=.tup [.int (i:Int),V.str x]) ht)
    refine ⟨_,rfl,RWA,_,rfl,.inr (hRW _),rfl,rfl,_,rfl,?_⟩
    rw [if_neg Zf_,Wq]
    refine E8 (fun hc=>?_) (fun hc=>?_)
    ·exact ⟨_,rfl,q1 i x ec hc hno _ s2⟩
    ·refine ⟨⟨_,_,rfl⟩,s2,fun v hv=>?_⟩
     rw [List.take_succ,ec] at hv
     rcases Θa hv with hv | hv
     ·exact hno v hv
     ·rw [Θs hv]; exact Bool.eq_false_iff.mpr hc
  ·rintro σ H' ⟨⟨v1,v2,rfl⟩,s1,hno⟩
   rw [lm,List.take_length] at hno
   exact q0 hno _ s1
noncomputable abbrev Ap:Stmt:=top 64
theorem scReadNames:FnScope ["line","words"] ["line"] (A7 Ap):=⟨rfl,rfl,rfl,by decide +kernel,rfl,by decide +kernel,by decide +kernel⟩
theorem Jt {f fAN:Addr} {fd fdAN:FuncData} (F:Fun K "read_names" "read_names" Ap f fd) (GAN:FnOk P w K mg base CX0 2 fAN fdAN ["words"] (Gn K)) (mAN:mg "are_names" = some (.ref fAN)) (kAN:Θk K fAN) (bAN:Binds K fdAN ["words"] []):FnOk P w K mg base CX0 3 f fd ["line"] Cc:=by
 refine F.ok scReadNames (fun vs H Q E h=>?_) (fun cdv A outer s H vs Q E hr h=>?_)
 ·obtain ⟨t,ws,rfl,_⟩:=h
  rfl
 ·obtain ⟨t,ws,rfl,lt,es,lw,aw,nb,q⟩:=h
  have nd:=scReadNames.nd
  have hr2:Room 2 _:=hr.mono (by decide)
  have ls:(Txt.split t C8).length<=1000:=by rw [es,ZA]; omega
  refine ⟨_,(A2 (C0 (i:=1) nd rfl (Or.inl rfl) (I9 PySem.F.plainAttrs_str PySem.F.slot_str_split PySem.F.type_str_split Y5 (pv 0) (A0 B9 A1)))
   (A2 (D1 (PW.pt (Bp (B1 op_ne (C4 (C9 (K:=K) rfl) (pv 1) A5 (fun _ _=>rfl)) B9 (C3 _)) (Db (R9 (K8 (A8 GAN hr2 rfl mAN kAN bAN .nil B2 (A0 (J3 M5 (pv 1) (K9 A5) M4) A1))))))) (A4 (A9 F5)) C1)
   (A4 (A9 (J3 M5 (pv 1) (K9 A5) M4))))),?_⟩
  refine ⟨_,rfl,rfl,t,C8,rfl,rfl,rfl,by omega,ls,fun wl hwl=>?_⟩
  rw [es]
  have s1:=Same.new (o:=.lst ((columnsS :: ws).map V.str)) hwl
  have h1:(upd H wl (.lst ((columnsS :: ws).map V.str))) wl=some (.lst (V.str columnsS :: ws.map V.str)):=A3
  generalize upd H wl (.lst ((columnsS :: ws).map V.str))=H1 at s1 h1
  refine ⟨_,rfl,wl,_,_,_,rfl,rfl,SqL.of h1,A6 (j:=0) rfl,rfl,_,rfl,?_⟩
  refine E8 (fun hc=>absurd hc (by decide)) (fun _=>?_)
  refine ⟨_,rfl,1,rfl,wl,_,rfl,SqL.of h1,fun p hp=>?_⟩
  rw [Hq]
  have s2:=s1.trans (Same.new (o:=.lst (ws.map V.str)) hp)
  have h2:(upd H1 p (.lst (ws.map V.str))) p=some (.lst (ws.map V.str)):=A3
  have h1':=(Same.new (o:=.lst (ws.map V.str)) hp) _ _ h1
  generalize upd H1 p (.lst (ws.map V.str))=H2 at s2 h2 h1'
  refine ⟨p,ws,rfl,SqL.of h2,by omega,aw,fun H3 s3=>?_⟩
  rw [nb]
  refine ⟨_,rfl,E7 ?_⟩
  refine ⟨_,rfl,1,rfl,wl,_,rfl,SqL.of (s3 _ _ h1'),fun p2 hp2=>?_⟩
  rw [Hq]
  exact q p2 _ ((s2.trans s3).trans (Same.new hp2)) ((s2.trans s3).none hp2) A3
end
end Own
namespace Own
open PySem L2
section
variable {P:Program} {w:World} {K:Θf} {mg:Str->Option Value} {base:Heap}
seal PySem.wpAny
noncomputable abbrev Zf:Stmt:=top 61
theorem scSetN:FnScope ["names","words","some","word","column"] ["names","words"] (A7 Zf):=⟨rfl,rfl,rfl,by decide +kernel,rfl,by decide +kernel,by decide +kernel⟩
theorem Abu {f:Addr} {fd:FuncData} (F:Fun K "set_named" "set_named" Zf f fd):FnOk P w K mg base CX0 1 f fd ["names","words"] (Au K):=by
 refine F.ok scSetN (fun vs H Q E h=>?_) (fun cdv A outer s H vs Q E hr h=>?_)
 ·obtain ⟨np,wp,nms,ws,rfl,_⟩:=h
  rfl
 ·obtain ⟨np,wp,nms,ws,rfl,hn,NN,hw,lw,qs,qn⟩:=h
  have nd:=scSetN.nd
  have lwm:(ws.map V.str).length=ws.length:=Θl ..
  have p7:=W4 NN.l7
  refine ⟨_,(A2 (C0 (i:=2) nd rfl (Or.inl rfl) A5)
   (A2 (K7 PassesOwn.never rfl (E3 (K:=K) rfl (pv 1)) (C5 (i:=3) nd rfl (Or.inl rfl)) (A2 (D1 (B1 Bl (pv 3) (pv 0) (by rfl)) (A4 (A9 F5)) C1)
   (A2 (C0 (i:=4) nd rfl (Or.inl rfl) (Yi (K:=K) rfl PySem.F.plainAttrs_list PySem.F.slot_list_index PySem.F.type_list_index (Ig (K:=K) rfl) (pv 0) (A0 (pv 3) A1)))
   (A2 (D1 (B1 Aec (B0 P9 A5 (pv 4)) (pv 2) (C3 _)) (A4 (A9 F5)) C1)
   (A4 (C0 (i:=2) nd rfl (Or.inl rfl) (B0 X4 (pv 2) (B0 P9 A5 (pv 4)))))))))
   (A4 (A9 (pv 2))))),?_⟩
  refine ⟨_,rfl,wp,rfl,⟨_,hw⟩,M6 (K:=K) (xs:=ws.map V.str) (fun i σ H'=>H' = H/\∃(a:Nat) (v3 v4:Option V),σ=[some (.ref np),some (.ref wp),some (vN a),v3,v4]/\a < 2 ^ nms.length/\ws.take i=D8 nms a) ⟨rfl,0,none,none,rfl,Nat.two_pow_pos _,rfl⟩ (fun i σ H' _ h=>by rw [h.1]; exact hw) ?_ ?_⟩
  ·rintro i v σ H' hv ⟨rfl,a,v3,v4,rfl,ha,et⟩
   rw [Θg] at hv
   cases ew:ws[i]? with
   | none=>rw [ew] at hv; cases hv
   | some x=>
    rw [ew] at hv
    obtain rfl:=(Θo hv).symm
    refine ⟨_,rfl,_,rfl,np,_,rfl,.inl hn,rfl,Fq _,_,rfl,?_⟩
    rw [if_pos rfl,El]
    by_cases hx:x∈nms
    ·rw [Zr_ hx]
     refine E7 ?_
     obtain ⟨k,hk⟩:=List.getElem?_of_mem hx
     have hkl:k < nms.length:=(Ze_.mp hk).1
     have exk:x=nms.getD k noS:=by rw [Zu_,hk]; rfl
     have pk:2 ^ k < 2 ^ nms.length:=Nat.pow_lt_pow_right (by decide) hkl
     refine ⟨_,rfl,.inl ⟨rfl,_,hn⟩,_,rfl,np,nms,k,rfl,hn,by have:=NN.l7; omega,NN.nd,hkl,by rw [exk],?_⟩
     have k7:=NN.l7
     refine ⟨_,rfl,k,rfl,rfl,by omega,_,rfl,2 ^ k,a,rfl,rfl,_,rfl,E8 (fun hc=>?_) (fun hc=>?_)⟩
     ·have hc:=Zj_ hc
      refine qn fun s hs e=>?_
      obtain ⟨k',hk',ek',lt⟩:=Abc NN hs ha e et ew
      rw [exk] at ek'
      have:=Op NN hkl hk' ek'
      subst this
      omega
     ·have hc:a < 2 ^ k:=Nat.lt_of_not_le fun z=>hc (Zr_ z)
      refine ⟨_,rfl,_,rfl,k,rfl,rfl,by omega,a,2 ^ k,rfl,rfl,rfl,a|||2 ^ k,_,_,rfl,Nat.or_lt_two_pow ha pk,?_⟩
      rw [List.take_succ,ew,et,Af3 NN hkl hc,<-exk]
      rfl
    ·rw [decide_eq_false hx]
     refine N9 (qn fun s hs e=>hx ?_)
     rw [e] at ew
     exact V5 NN hs (Θe ew)
  ·rintro σ H' ⟨rfl,a,v3,v4,rfl,ha,et⟩
   rw [lwm,List.take_length] at et
   exact ⟨_,rfl,qs a ha et⟩
noncomputable abbrev Bt:Stmt:=top 62
theorem scNamesIn:FnScope ["names","some"] ["names","some"] (A7 Bt):=⟨rfl,rfl,rfl,by decide +kernel,rfl,by decide +kernel,by decide +kernel⟩
theorem Ot {f fC:Addr} {fd fdC:FuncData} (F:Fun K "names_in" "names_in" Bt f fd) (GC:FnOk P w K mg base CX0 2 fC fdC ["some"] Gp) (mC:mg "columns_of" = some (.ref fC)) (kC:Θk K fC) (bC:Binds K fdC ["some"] []):FnOk P w K mg base CX0 3 f fd ["names","some"] (R4 K):=by
 refine F.ok scNamesIn (fun vs H Q E h=>?_) (fun cdv A outer s H vs Q E hr h=>?_)
 ·obtain ⟨np,nms,z,rfl,_⟩:=h
  rfl
 ·obtain ⟨np,nms,z,rfl,hn,NN,hz,q⟩:=h
  have nd:=scNamesIn.nd
  have hr2:Room 2 _:=hr.mono (by decide)
  have z128:=S0 NN hz
  refine ⟨_,(A4 (A9 (K0 (xs:=["column"]) (cs ["names","some"] (A7 Bt) rfl rfl (by decide +kernel)) rfl (E3 (K:=K) rfl (A8 GC hr2 rfl mC kC bC .nil B2 (A0 (pv 1) A1))) (fun _ _ _=>C5 (i:=0) (show (["column","names","some"]:List Str).Nodup by decide +kernel) rfl (Or.inl rfl)) (fun _ _ _=>K5) (fun _ _ _=>(C4 (C9 (K:=K) rfl) (pv 1) (pv 0) (fun _ _=>rfl)))))),?_⟩
  refine ⟨_,rfl,z,rfl,by omega,fun p hp=>⟨p,rfl,⟨_,SqL.of A3⟩,?_⟩⟩
  have s1:=Same.new (o:=.lst ((D4 z).map vN)) hp
  have hp1:(upd H p (.lst ((D4 z).map vN))) p=some (.lst ((D4 z).map vN)):=A3
  generalize upd H p (.lst ((D4 z).map vN))=H1 at s1 hp1
  have lc:((D4 z).map vN).length<=7:=by
   have:=P2 NN hz
   unfold D8 at this
   rw [Θl] at this ⊢
   exact this
  refine L6 (K:=K) (xs:=(D4 z).map vN) (fun j acc H2=>H2=H1/\acc=(((D4 z).take j).map fun c=>nms.getD c noS).map V.str) (by omega) ⟨rfl,rfl⟩ (fun j acc H2 hj h=>?_) (fun j v acc H2 hv h=>?_) (fun acc H2 h=>?_)
  ·obtain ⟨rfl,rfl⟩:=h
   exact ⟨SqL.of hp1,by rw [Θl,Θl]; exact List.length_take_le _ _⟩
  ·obtain ⟨rfl,rfl⟩:=h
   rw [Θg] at hv
   cases ec:(D4 z)[j]? with
   | none=>rw [ec] at hv; cases hv
   | some c=>
    rw [ec] at hv
    obtain rfl:=(Θo hv).symm
    have hc:=V2 NN hz (Θe ec)
    refine ⟨rfl,_,rfl,_,rfl,np,_,_,_,rfl,rfl,s1.seq hn,A6 (j:=c) (v:=V.str (nms.getD c noS)) (by rw [Θg,(Be hc).2]; rfl),rfl,?_⟩
    rw [List.take_succ,ec,Zw_,Zw_]
    rfl
  obtain ⟨rfl,rfl⟩:=h
  rw [Θl,List.take_length]
  intro l hl
  exact q l _ (s1.trans (Same.new hl)) (s1.free hl) A3
noncomputable abbrev Dd:Stmt:=top 65
theorem scReadRule:FnScope ["names","line","words","at","left","right"] ["names","line"] (A7 Dd):=⟨rfl,rfl,rfl,by decide +kernel,rfl,by decide +kernel,by decide +kernel⟩
theorem Mm {f fFR fSN:Addr} {fd fdFR fdSN:FuncData} (F:Fun K "read_rule" "read_rule" Dd f fd) (GFR:FnOk P w K mg base CX0 1 fFR fdFR ["words"] (Ac1 K)) (mFR:mg "first_rule_word" = some (.ref fFR)) (kFR:Θk K fFR) (bFR:Binds K fdFR ["words"] []) (GSN:FnOk P w K mg base CX0 1 fSN fdSN ["names","words"] (Au K)) (mSN:mg "set_named" = some (.ref fSN)) (kSN:Θk K fSN) (bSN:Binds K fdSN ["names","words"] []):FnOk P w K mg base CX0 2 f fd ["names","line"] (Ee K):=by
 refine F.ok scReadRule (fun vs H Q E h=>?_) (fun cdv A outer s H vs Q E hr h=>?_)
 ·obtain ⟨np,nms,r,rfl,_⟩:=h
  rfl
 ·obtain ⟨np,nms,r,rfl,hn,NN,NNW,hI,y0,q⟩:=h
  have nd:=scReadRule.nd
  have hr1:Room 1 _:=hr.mono (by decide)
  have rl:=Bq NN hI
  refine ⟨_,(A2 (C0 (i:=2) nd rfl (Or.inl rfl) (I9 PySem.F.plainAttrs_str PySem.F.slot_str_split PySem.F.type_str_split Y5 (pv 1) (A0 B9 A1)))
   (A2 (C0 (i:=3) nd rfl (Or.inl rfl) (A8 GFR hr1 rfl mFR kFR bFR .nil B2 (A0 (pv 2) A1)))
   (A2 (D1 (B1 V8 (pv 3) F5 (C3 _)) (A4 (A9 F5)) C1)
   (A2 (C0 (i:=4) nd rfl (Or.inl rfl) (A8 GSN hr1 rfl mSN kSN bSN .nil B2 (A0 (pv 0) (A0 (J3 M5 (pv 2) M4 (K9 (pv 3))) A1))))
   (A2 (C0 (i:=5) nd rfl (Or.inl rfl) (A8 GSN hr1 rfl mSN kSN bSN .nil B2 (A0 (pv 0) (A0 (J3 M5 (pv 2) (K9 (B0 F9 (pv 3) A5)) M4) A1))))
   (A2 (D1 (PW.pt (Bp (B1 V8 (pv 4) F5 (C3 _)) (Bp (B1 V8 (pv 5) F5 (C3 _)) (Db (B1 O1 (pv 5) A5 (C3 _)))))) (A4 (A9 F5)) C1)
   (A4 (A9 (F2 (A0 (C4 (C9 (K:=K) rfl) (pv 2) (pv 3) (fun _ _=>rfl)) (A0 (pv 4) (A0 (pv 5) A1)))))))))))),?_⟩
  refine ⟨_,rfl,rfl,K3 nms r,C8,rfl,rfl,rfl,Zo_ (Qv NN hI).2 (by decide),by rw [Gv NN hI]; omega,fun wl hwl=>?_⟩
  rw [Gv NN hI]
  have s1:=Same.new (o:=.lst ((N8 nms r).map V.str)) hwl
  have h1:(upd H wl (.lst ((N8 nms r).map V.str))) wl=some (.lst ((N8 nms r).map V.str)):=A3
  generalize upd H wl (.lst ((N8 nms r).map V.str))=H1 at s1 h1
  have em:(N8 nms r).map V.str=(D8 nms r.2.1).map V.str++V.str (D6 r.1) :: (D8 nms r.2.2).map V.str:=by unfold N8; rw [List.map_append]; rfl
  have la:=P2 NN hI.1
  refine ⟨_,rfl,wl,N8 nms r,rfl,SqL.of h1,by omega,fun k x hk hx hno H2 s2=>?_,fun no=>?nowd⟩
  case nowd=>
   have:=no (D6 r.1) (by unfold N8; exact List.mem_append_right _ (Θc ..))
   rw [Rj] at this
   cases this
  have ka:k=(D8 nms r.2.1).length:=by
   unfold N8 at hk hno
   rcases Nat.lt_trichotomy k (D8 nms r.2.1).length with c | c | c
   ·rw [List.getElem?_append_left c] at hk
    have:=NNW x (V5 NN hI.1 (Θe hk))
    rw [hx] at this
    cases this
   ·exact c
   ·have:D6 r.1∈(D8 nms r.2.1++D6 r.1 :: D8 nms r.2.2).take k:=by
     rw [List.take_append]
     refine Zh_ _ ?_
     obtain ⟨d,hd⟩:∃d,k - (D8 nms r.2.1).length=d + 1:=⟨k - (D8 nms r.2.1).length - 1,by omega⟩
     rw [hd,List.take_succ_cons]
     exact Θc ..
    have:=hno _ this
    rw [Rj] at this
    cases this
  subst ka
  have h2:=s2 _ _ h1
  rw [em] at h2
  have s12:=s1.trans s2
  refine ⟨_,rfl,rfl,_,rfl,E7 ?_⟩
  have lA:((D8 nms r.2.1).map V.str).length=(D8 nms r.2.1).length:=Θl ..
  refine ⟨_,rfl,_,rfl,_,rfl,((D8 nms r.2.1).length:Int),rfl,wl,_,rfl,SqL.of h2,fun p hp=>?_⟩
  have ec:W3 ((D8 nms r.2.1).map V.str++V.str (D6 r.1) :: (D8 nms r.2.2).map V.str) none (some ((D8 nms r.2.1).length:Int))=(D8 nms r.2.1).map V.str:=by
   have:=Vs (A:=(D8 nms r.2.1).map V.str) (B:=V.str (D6 r.1) :: (D8 nms r.2.2).map V.str)
   rw [lA] at this
   exact this
  rw [ec]
  have s3:=Same.new (o:=.lst ((D8 nms r.2.1).map V.str)) hp
  have hp3:(upd H2 p (.lst ((D8 nms r.2.1).map V.str))) p=some (.lst ((D8 nms r.2.1).map V.str)):=A3
  have h3:=s3 _ _ h2
  replace s3:=s12.trans s3
  generalize upd H2 p (.lst ((D8 nms r.2.1).map V.str))=H3 at s3 hp3 h3
  refine ⟨np,p,nms,D8 nms r.2.1,rfl,s3.seq hn,NN,SqL.of hp3,by omega,fun z hz ez=>?_,fun no=>absurd rfl (no _ hI.1)⟩
  obtain rfl:=Oa NN hI.1 hz ez
  have lb:=P2 NN hI.2
  refine ⟨_,rfl,_,rfl,_,rfl,(D8 nms r.2.1).length,1,rfl,rfl,(((D8 nms r.2.1).length + 1:Nat):Int),rfl,wl,_,rfl,SqL.of h3,fun p2 hp2=>?_⟩
  have ec:W3 ((D8 nms r.2.1).map V.str++V.str (D6 r.1) :: (D8 nms r.2.2).map V.str) (some (((D8 nms r.2.1).length + 1:Nat):Int)) none=(D8 nms r.2.2).map V.str:=by
   have:=Ho (A:=(D8 nms r.2.1).map V.str) (B:=(D8 nms r.2.2).map V.str) (w:=V.str (D6 r.1))
   rw [lA] at this
   exact this
  rw [ec]
  have s4:=Same.new (o:=.lst ((D8 nms r.2.2).map V.str)) hp2
  have hp4:(upd H3 p2 (.lst ((D8 nms r.2.2).map V.str))) p2=some (.lst ((D8 nms r.2.2).map V.str)):=A3
  have h4:=s4 _ _ h3
  replace s4:=s3.trans s4
  generalize upd H3 p2 (.lst ((D8 nms r.2.2).map V.str))=H4 at s4 hp4 h4
  refine ⟨np,p2,nms,D8 nms r.2.2,rfl,s4.seq hn,NN,SqL.of hp4,by omega,fun z hz ez=>?_,fun no=>absurd rfl (no _ hI.2)⟩
  obtain rfl:=Oa NN hI.2 hz ez
  refine ⟨_,rfl,rfl,_,rfl,E7 ?_⟩
  refine ⟨_,rfl,rfl,_,rfl,E7 ?_⟩
  refine ⟨_,rfl,_,_,rfl,rfl,_,rfl,?_⟩
  rw [decide_eq_false y0]
  refine E7 ?_
  refine ⟨_,rfl,_,rfl,wl,_,_,_,rfl,rfl,SqL.of h4,A6 (j:=(D8 nms r.2.1).length) (v:=V.str (D6 r.1)) (by rw [ZD (by rw [lA]; exact Zd_ _),lA,Nat.sub_self]; rfl),_,rfl,_,rfl,(by show 3<=sizeLine; decide),fun t ht=>?_⟩
  exact q t _ (s4.trans (Same.new ht)) (s4.none ht) A3
noncomputable abbrev Ze:Stmt:=top 66
theorem scRead:FnScope ["text","lines","names","rules","number","rule"] ["text"] (A7 Ze):=⟨rfl,rfl,rfl,by decide +kernel,rfl,by decide +kernel,by decide +kernel⟩
theorem Abr {f fRN fRR:Addr} {fd fdRN fdRR:FuncData} {tkMR:PySem.Tok} (F:Fun K "read" "read" Ze f fd) (GRN:FnOk P w K mg base CX0 3 fRN fdRN ["line"] Cc) (mRN:mg "read_names" = some (.ref fRN)) (kRN:Θk K fRN) (bRN:Binds K fdRN ["line"] []) (GRR:FnOk P w K mg base CX0 2 fRR fdRR ["names","line"] (Ee K)) (mRR:mg "read_rule" = some (.ref fRR)) (kRR:Θk K fRR) (bRR:Binds K fdRR ["names","line"] []) (mMR:mg "MOST_RULES" = some (.int 12 tkMR)) (zisinstance:mg "isinstance" = none) (zstr:mg "str" = none) (zrange:mg "range" = none) (zlen:mg "len" = none):FnOk P w K mg base CX0 4 f fd ["text"] Rz:=by
 refine F.ok scRead (fun vs H Q E h=>?_) (fun cdv A outer s H vs Q E hr h=>?_)
 ·obtain ⟨nms,rs,rfl,_⟩:=h
  rfl
 ·obtain ⟨nms,rs,rfl,NN,NNW,hI,l12,q⟩:=h
  have nd:=scRead.nd
  have hr2:Room 2 _:=hr.mono (by decide)
  have hr3:Room 3 _:=hr.mono (by decide)
  have hI1:∀r∈rs,InR nms r:=fun r hr'=>(hI r hr').1
  have tl:=Aae NN hI1 l12
  have l7:=NN.l7
  refine ⟨_,(A2 (D1 (R9 (K8 (D2 (Fg (K:=K) rfl) (by rfl) zisinstance PyProof.Rows.boot_isinstance (A0 (pv 0) (A0 (Jx (v:=.ty "str") rfl zstr PyProof.Rows.boot_str rfl) A1))))) (A4 M8) C1)
   (A2 (C0 (i:=1) nd rfl (Or.inl rfl) (I9 PySem.F.plainAttrs_str PySem.F.slot_str_split PySem.F.type_str_split Y5 (pv 0) (A0 B9 A1)))
   (A2 (C0 (i:=2) nd rfl (Or.inl rfl) (A8 GRN hr3 rfl mRN kRN bRN .nil B2 (A0 (C4 (C9 (K:=K) rfl) (pv 1) A5 (fun _ _=>rfl)) A1)))
   (A2 (D1 (B1 V8 (pv 2) F5 (C3 _)) (A4 M8) C1)
   (A2 (C0 (i:=3) nd rfl (Or.inl rfl) (E5 A1))
   (A2 (K7 PassesOwn.never rfl (Ul rfl zrange (A0 A5 (A0 (D2 (D9 (K:=K) rfl) (by rfl) zlen PySem.boot_len (A0 (pv 1) A1)) A1))) (C5 (i:=4) nd rfl (Or.inl rfl)) (A2 (C0 (i:=5) nd rfl (Or.inl rfl) (A8 GRR hr2 rfl mRR kRR bRR .nil B2 (A0 (pv 2) (A0 (C4 (C9 (K:=K) rfl) (pv 1) (pv 4) (fun _ _=>rfl)) A1))))
   (A2 (D1 (PW.pt (Bp (B1 V8 (pv 5) F5 (C3 _)) (Db (B1 T5 (pv 4) (L8 (v:=vN 12) (by rfl) mMR ⟨_,rfl⟩) (C3 _))))) (A4 M8) C1)
   (A4 (O5 (I9 PySem.F.plainAttrs_list PySem.F.slot_list_append PySem.F.type_list_append N2 (pv 3) (A0 (pv 5) A1)))))))
   (A4 (A9 (F2 (A0 (pv 2) (A0 (pv 3) A1))))))))))),?_⟩
  refine ⟨_,rfl,_,_,_,true,rfl,.str _,rfl,_,rfl,E7 ?_⟩
  refine ⟨_,rfl,rfl,Ch nms rs,nlS,rfl,rfl,rfl,by omega,by rw [Gw NN hI1,U4]; omega,fun ll hll=>?_⟩
  rw [Gw NN hI1]
  have s1:=Same.new (o:=.lst ((O0 nms rs).map V.str)) hll
  have h1:(upd H ll (.lst ((O0 nms rs).map V.str))) ll=some (.lst ((O0 nms rs).map V.str)):=A3
  generalize upd H ll (.lst ((O0 nms rs).map V.str))=H1 at s1 h1
  have ho:=Qs NN
  refine ⟨_,rfl,ll,_,_,_,rfl,rfl,SqL.of h1,A6 (j:=0) (v:=V.str (P0 nms)) rfl,P0 nms,nms,rfl,by omega,Px NN,by omega,(fun x hx=>⟨Zo_ (NN.len x hx) (by decide),fun c hc=>by have:=NN.low x hx c hc; omega⟩),Xl NN NNW,fun nl H2 s2 hnl0 hnl=>?_⟩
  have h2:=s2 _ _ h1
  have nnl:H nl=none:=s1.none hnl0
  refine ⟨_,rfl,rfl,_,rfl,E7 ?_⟩
  refine ⟨(by show 0<=sizeLine; decide),fun rl hrl0=>?_⟩
  have s3:=Same.new (o:=.lst []) hrl0
  have hrl:(upd H2 rl (.lst [])) rl=some (.lst (([]:List Rl).map fun (r:Rl)=>V.ref r.r)):=A3
  have h3:=s3 _ _ h2
  have hnl3:=s3 _ _ hnl
  have nnr:nl≠rl:=C7 hnl hrl0
  have nlr:ll≠rl:=C7 h2 hrl0
  have s12:=s1.trans s2
  have nrl:H rl=none:=s12.none hrl0
  replace s3:=s12.trans s3
  generalize upd H2 rl (.lst [])=H3 at s3 hrl h3 hnl3
  have lm:((O0 nms rs).map V.str).length=rs.length + 1:=by rw [Θl,U4]
  refine ⟨_,rfl,ll,_,rfl,.inl (SqL.of h3),((1:Nat):Int),((((O0 nms rs).map V.str).length:Nat):Int),rfl,⟨by decide,by decide,by omega,by omega⟩,?_⟩
  rw [Afb,lm]
  refine Ny (a:=1) (n:=rs.length + 1 - 1) (fun j σ H'=>(∃v4 v5,σ=[some (.str (Ch nms rs)),some (.ref ll),some (.ref nl),some (.ref rl),v4,v5])/\∃ks:List Rl,ks.map Rl.d=rs.take j/\Same H H'/\H' ll=some (.lst ((O0 nms rs).map V.str))/\H' nl=some (.lst (nms.map V.str))/\H' rl=some (.lst (ks.map fun (r:Rl)=>V.ref r.r))/\RulesAt H' nms.length ks/\(∀r∈ks,r.r≠nl/\r.r≠rl)) ⟨⟨_,_,rfl⟩,[],rfl,s3,h3,hnl3,hrl,(fun r h=>absurd h Zi_),(fun r h=>absurd h Zi_)⟩ ?_ ?_
  ·rintro j σ H' hj ⟨⟨v4,v5,rfl⟩,ks,ek,s',hl',hn',hr',hR,hne⟩
   have hj':j < rs.length:=by omega
   have er:rs[j]? = some rs[j]:=Θh hj'
   have hm:=Θe er
   generalize rs[j]=r at er hm
   refine ⟨_,rfl,_,rfl,_,rfl,ll,_,_,_,rfl,rfl,SqL.of hl',A6 (j:=1 + j) (v:=V.str (K3 nms r)) (by rw [Nat.add_comm]; unfold O0; rw [List.map_cons,List.getElem?_cons_succ,Θg,Θg,er]; rfl),nl,nms,r,rfl,SqL.of hn',NN,NNW,(hI r hm).1,(hI r hm).2,fun l H4 s4 hl0 hl=>?_⟩
   have lks:ks.length<=12:=by
    have:=congrArg List.length ek
    rw [Θl,ZB] at this
    omega
   have hr4:=s4 _ _ hr'
   refine ⟨_,rfl,rfl,_,rfl,E7 ?_⟩
   refine ⟨_,rfl,1 + j,12,rfl,rfl,_,rfl,?_⟩
   rw [decide_eq_false (p:=12 < 1 + j) (by omega)]
   refine E7 ?_
   refine ⟨_,rfl,.inl ⟨rfl,_,SqL.of hr4⟩,_,rfl,rl,_,_,rfl,rfl,hr4,D0 (by rw [Θl]; omega),?_⟩
   have n1:l≠nl:=(C7 hn' hl0).symm
   have n2:l≠rl:=(C7 hr' hl0).symm
   refine ⟨⟨_,_,rfl⟩,ks++[⟨l,r.1,r.2.1,r.2.2⟩],?_,(s'.trans s4).over nrl,?_,?_,?_,fun k hk=>?_,fun k hk=>?_⟩
   ·rw [Zw_,ek,List.take_succ,er]; rfl
   ·rw [C6 nlr]; exact s4 _ _ hl'
   ·rw [C6 nnr]; exact s4 _ _ hn'
   ·rw [A3,Zw_]; rfl
   ·rcases Θa hk with hk | hk
    ·refine ⟨?_,(hR k hk).2⟩
     show upd H4 rl _ k.r=_
     rw [C6 (hne k hk).2]
     exact s4 _ _ (hR k hk).1
    ·rw [Θs hk]
     refine ⟨?_,(hI r hm).1⟩
     show upd H4 rl _ l=_
     rw [C6 n2]
     exact hl
   ·rcases Θa hk with hk | hk
    ·exact hne k hk
    ·rw [Θs hk]; exact ⟨n1,n2⟩
  ·rintro σ H' ⟨⟨v4,v5,rfl⟩,ks,ek,s',hl',hn',hr',hR,hne⟩
   rw [Nat.add_sub_cancel,List.take_length] at ek
   refine ⟨_,rfl,_,rfl,(by show 2<=sizeLine; decide),fun t ht=>?_⟩
   have s5:=Same.new (o:=.tup [V.ref nl,V.ref rl]) ht
   exact q t nl rl ks _ (s'.trans s5) nnl nrl nnr ek (hR.same s5) A3 (s5 _ _ hn') (s5 _ _ hr') hne
end
end Own
namespace Own
open PySem L2
section
variable {P:Program} {w:World} {K:Θf} {mg:Str->Option Value} {base:Heap}
seal PySem.wpAny
noncomputable abbrev De:Stmt:=top 67
theorem scShowRule:FnScope ["names","rule"] ["names","rule"] (A7 De):=⟨rfl,rfl,rfl,by decide +kernel,rfl,by decide +kernel,by decide +kernel⟩
theorem Mn {f fNI:Addr} {fd fdNI:FuncData} (F:Fun K "show_rule" "show_rule" De f fd) (GNI:FnOk P w K mg base CX0 3 fNI fdNI ["names","some"] (R4 K)) (mNI:mg "names_in" = some (.ref fNI)) (kNI:Θk K fNI) (bNI:Binds K fdNI ["names","some"] []):FnOk P w K mg base CX0 4 f fd ["names","rule"] (S1 K):=by
 refine F.ok scShowRule (fun vs H Q E h=>?_) (fun cdv A outer s H vs Q E hr h=>?_)
 ·obtain ⟨np,nms,r,rfl,_⟩:=h
  rfl
 ·obtain ⟨np,nms,r,rfl,hn,NN,hR,hI,q⟩:=h
  have nd:=scShowRule.nd
  have hr3:Room 3 _:=hr.mono (by decide)
  refine ⟨_,(A4 (A9 (I9 PySem.F.plainAttrs_str PySem.F.slot_str_join PySem.F.type_str_join N3 B9 (A0 (B0 K6 (B0 K6 (A8 GNI hr3 rfl mNI kNI bNI .nil B2 (A0 (pv 0) (A0 (C4 (C2 (K:=K) rfl) (pv 1) A5 (fun _ _=>rfl)) A1))) (E5 (A0 (C4 (C2 (K:=K) rfl) (pv 1) A5 (fun _ _=>rfl)) A1))) (A8 GNI hr3 rfl mNI kNI bNI .nil B2 (A0 (pv 0) (A0 (C4 (C2 (K:=K) rfl) (pv 1) A5 (fun _ _=>rfl)) A1)))) A1)))),?_⟩
  have la:(D8 nms r.x).length<=7:=P2 NN hI.1
  have lb:(D8 nms r.y).length<=7:=P2 NN hI.2
  refine ⟨rfl,_,rfl,_,rfl,r.r,_,_,_,rfl,rfl,SqT.of hR,A6 (j:=1) rfl,np,nms,r.x,rfl,hn,NN,hI.1,fun l1 H1 s1 hl0 hl1=>?_⟩
  refine ⟨_,rfl,r.r,_,_,_,rfl,rfl,SqT.of (s1 _ _ hR),A6 (j:=0) rfl,(by show 1<=sizeLine; decide),fun l2 hl2=>?_⟩
  have s2:=Same.new (o:=.lst [V.str (D6 r.st)]) hl2
  have h2:(upd H1 l2 (.lst [V.str (D6 r.st)])) l2=some (.lst [V.str (D6 r.st)]):=A3
  have h1:=s2 _ _ hl1
  replace s2:=s1.trans s2
  generalize upd H1 l2 (.lst [V.str (D6 r.st)])=H2 at s2 h2 h1
  refine ⟨l1,l2,_,_,rfl,rfl,h1,h2,Nat.le_of_lt (D0 (by rw [Θl]; show _ + 1<=1000; omega)),fun l3 hl3=>?_⟩
  have s3:=Same.new (o:=.lst ((D8 nms r.x).map V.str++[V.str (D6 r.st)])) hl3
  have h3:(upd H2 l3 (.lst ((D8 nms r.x).map V.str++[V.str (D6 r.st)]))) l3=some (.lst ((D8 nms r.x).map V.str++[V.str (D6 r.st)])):=A3
  replace s3:=s2.trans s3
  generalize upd H2 l3 (.lst ((D8 nms r.x).map V.str++[V.str (D6 r.st)]))=H3 at s3 h3
  refine ⟨_,rfl,_,rfl,r.r,_,_,_,rfl,rfl,SqT.of (s3 _ _ hR),A6 (j:=2) rfl,np,nms,r.y,rfl,s3.seq hn,NN,hI.2,fun l4 H4 s4 _ hl4=>?_⟩
  refine ⟨l3,l4,_,_,rfl,rfl,s4 _ _ h3,hl4,Nat.le_of_lt (D0 (by rw [Zv_,Θl,Θl]; show _ + 1 + _<=1000; omega)),fun l5 hl5=>?_⟩
  have em:(D8 nms r.x).map V.str++[V.str (D6 r.st)]++(D8 nms r.y).map V.str=(D8 nms r.x++[D6 r.st]++D8 nms r.y).map V.str:=by rw [Zw_,Zw_]; rfl
  have ew:D8 nms r.x++[D6 r.st]++D8 nms r.y=N8 nms r.d:=by unfold N8; rw [List.append_assoc]; rfl
  rw [em,ew]
  refine ⟨C8,l5,N8 nms r.d,rfl,rfl,SqL.of A3,Q2 (fun x hx=>(X6 NN hI x hx).2) rfl (by have:=Bq NN hI; omega),?_⟩
  rw [N1]
  exact q _ ((s3.trans s4).trans (Same.new hl5))
noncomputable abbrev sIn:Stmt:=top 88
theorem scIn:FnScope ["_law_names_here","_law_some"] ["_law_names_here","_law_some"] (A7 sIn):=⟨rfl,rfl,rfl,by decide +kernel,rfl,by decide +kernel,by decide +kernel⟩
theorem Af5 {f:Addr} {fd:FuncData} (F:Fun K "_law_in" "_law_in" sIn f fd) (zrange:mg "range" = none) (zlen:mg "len" = none):FnOk P w K mg base CX0 1 f fd ["_law_names_here","_law_some"] (R4 K):=by
 refine F.ok scIn (fun vs H Q E h=>?_) (fun cdv A outer s H vs Q E hr h=>?_)
 ·obtain ⟨np,nms,z,rfl,_⟩:=h
  rfl
 ·obtain ⟨np,nms,z,rfl,hn,NN,hz,q⟩:=h
  have nd:=scIn.nd
  have l7:=NN.l7
  have lm:(nms.map V.str).length=nms.length:=Θl ..
  refine ⟨_,(A4 (A9 (K0 (xs:=["_law_k"]) (cs ["_law_names_here","_law_some"] (A7 sIn) rfl rfl (by decide +kernel)) rfl (N5 rfl zrange (A0 (D2 (D9 (K:=K) rfl) (by rfl) zlen PySem.boot_len (A0 (pv 0) A1)) A1)) (fun _ _ _=>C5 (i:=0) (show (["_law_k","_law_names_here","_law_some"]:List Str).Nodup by decide +kernel) rfl (Or.inl rfl)) (fun _ _ _=>(R1 (B1 O1 (B0 O4 (B0 Ab0 (pv 2) (pv 0)) A5) A5 (C3 _)))) (fun _ _ _=>(C4 (C9 (K:=K) rfl) (pv 1) (pv 0) (fun _ _=>rfl)))))),?_⟩
  refine ⟨_,rfl,np,_,rfl,.inl hn,((nms.map V.str).length:Int),rfl,by omega,by omega,?_⟩
  rw [lm]
  refine U3 (k:=nms.length) (fun i acc H'=>H' = H/\acc=(((List.range i).filter (Jn z)).map fun c=>nms.getD c noS).map V.str) (by omega) ⟨rfl,rfl⟩ (fun i acc H' hi h=>?_) (fun i acc H' hi h=>?_) (fun acc H' h=>?_)
  ·obtain ⟨rfl,rfl⟩:=h
   rw [Θl,Θl]
   exact Zo_ (List.length_filter_le _ _) (by rw [List.length_range]; exact Zd_ _)
  ·obtain ⟨rfl,rfl⟩:=h
   have hb:decide (z / 2 ^ i&&&1=1)=Jn z i:=by
    unfold Jn
    rw [Nat.and_one_is_mod]
   refine ⟨rfl,_,rfl,_,rfl,z,i,rfl,rfl,z / 2 ^ i,1,rfl,rfl,z / 2 ^ i&&&1,1,rfl,rfl,_,rfl,?_⟩
   rw [hb,List.range_succ,List.filter_append]
   refine E8 (fun hc=>?_) (fun hc=>?_)
   ·refine ⟨_,rfl,_,rfl,np,_,_,_,rfl,rfl,hn,A6 (j:=i) (v:=V.str (nms.getD i noS)) (by rw [Θg,(Be hi).2]; rfl),rfl,?_⟩
    rw [List.filter_cons_of_pos hc,List.filter_nil,Zw_,Zw_]
    rfl
   ·refine ⟨rfl,?_⟩
    rw [List.filter_cons_of_neg hc,List.filter_nil,List.append_nil]
  obtain ⟨rfl,rfl⟩:=h
  rw [Wr nms.length (by omega) z hz]
  intro l hl
  exact q l _ (Same.new hl) hl A3
noncomputable abbrev Pj:Stmt:=top 89
theorem scLLine:FnScope ["_law_names_here","_law_rule_here"] ["_law_names_here","_law_rule_here"] (A7 Pj):=⟨rfl,rfl,rfl,by decide +kernel,rfl,by decide +kernel,by decide +kernel⟩
theorem Xw {f fIN:Addr} {fd fdIN:FuncData} (F:Fun K "_law_line" "_law_line" Pj f fd) (GIN:FnOk P w K mg base CX0 1 fIN fdIN ["_law_names_here","_law_some"] (R4 K)) (mIN:mg "_law_in" = some (.ref fIN)) (kIN:Θk K fIN) (bIN:Binds K fdIN ["_law_names_here","_law_some"] []):FnOk P w K mg base CX0 2 f fd ["_law_names_here","_law_rule_here"] (S1 K):=by
 refine F.ok scLLine (fun vs H Q E h=>?_) (fun cdv A outer s H vs Q E hr h=>?_)
 ·obtain ⟨np,nms,r,rfl,_⟩:=h
  rfl
 ·obtain ⟨np,nms,r,rfl,hn,NN,hR,hI,q⟩:=h
  have nd:=scLLine.nd
  have hr1:Room 1 _:=hr.mono (by decide)
  refine ⟨_,(A4 (A9 (I9 PySem.F.plainAttrs_str PySem.F.slot_str_join PySem.F.type_str_join N3 B9 (A0 (B0 K6 (B0 K6 (A8 GIN hr1 rfl mIN kIN bIN .nil B2 (A0 (pv 0) (A0 (C4 (C2 (K:=K) rfl) (pv 1) A5 (fun _ _=>rfl)) A1))) (E5 (A0 (C4 (C2 (K:=K) rfl) (pv 1) A5 (fun _ _=>rfl)) A1))) (A8 GIN hr1 rfl mIN kIN bIN .nil B2 (A0 (pv 0) (A0 (C4 (C2 (K:=K) rfl) (pv 1) A5 (fun _ _=>rfl)) A1)))) A1)))),?_⟩
  have la:(D8 nms r.x).length<=7:=P2 NN hI.1
  have lb:(D8 nms r.y).length<=7:=P2 NN hI.2
  refine ⟨rfl,_,rfl,_,rfl,r.r,_,_,_,rfl,rfl,SqT.of hR,A6 (j:=1) rfl,np,nms,r.x,rfl,hn,NN,hI.1,fun l1 H1 s1 hl0 hl1=>?_⟩
  refine ⟨_,rfl,r.r,_,_,_,rfl,rfl,SqT.of (s1 _ _ hR),A6 (j:=0) rfl,(by show 1<=sizeLine; decide),fun l2 hl2=>?_⟩
  have s2:=Same.new (o:=.lst [V.str (D6 r.st)]) hl2
  have h2:(upd H1 l2 (.lst [V.str (D6 r.st)])) l2=some (.lst [V.str (D6 r.st)]):=A3
  have h1:=s2 _ _ hl1
  replace s2:=s1.trans s2
  generalize upd H1 l2 (.lst [V.str (D6 r.st)])=H2 at s2 h2 h1
  refine ⟨l1,l2,_,_,rfl,rfl,h1,h2,Nat.le_of_lt (D0 (by rw [Θl]; show _ + 1<=1000; omega)),fun l3 hl3=>?_⟩
  have s3:=Same.new (o:=.lst ((D8 nms r.x).map V.str++[V.str (D6 r.st)])) hl3
  have h3:(upd H2 l3 (.lst ((D8 nms r.x).map V.str++[V.str (D6 r.st)]))) l3=some (.lst ((D8 nms r.x).map V.str++[V.str (D6 r.st)])):=A3
  replace s3:=s2.trans s3
  generalize upd H2 l3 (.lst ((D8 nms r.x).map V.str++[V.str (D6 r.st)]))=H3 at s3 h3
  refine ⟨_,rfl,_,rfl,r.r,_,_,_,rfl,rfl,SqT.of (s3 _ _ hR),A6 (j:=2) rfl,np,nms,r.y,rfl,s3.seq hn,NN,hI.2,fun l4 H4 s4 _ hl4=>?_⟩
  refine ⟨l3,l4,_,_,rfl,rfl,s4 _ _ h3,hl4,Nat.le_of_lt (D0 (by rw [Zv_,Θl,Θl]; show _ + 1 + _<=1000; omega)),fun l5 hl5=>?_⟩
  have em:(D8 nms r.x).map V.str++[V.str (D6 r.st)]++(D8 nms r.y).map V.str=(D8 nms r.x++[D6 r.st]++D8 nms r.y).map V.str:=by rw [Zw_,Zw_]; rfl
  have ew:D8 nms r.x++[D6 r.st]++D8 nms r.y=N8 nms r.d:=by unfold N8; rw [List.append_assoc]; rfl
  rw [em,ew]
  refine ⟨C8,l5,N8 nms r.d,rfl,rfl,SqL.of A3,Q2 (fun x hx=>(X6 NN hI x hx).2) rfl (by have:=Bq NN hI; omega),?_⟩
  rw [N1]
  exact q _ ((s3.trans s4).trans (Same.new hl5))
end
end Own
namespace Own
open PySem L2
section
variable {P:Program} {w:World} {K:Θf} {mg:Str->Option Value} {base:Heap}
seal PySem.wpAny
noncomputable abbrev Ko:Stmt:=top 68
theorem scShown:FnScope ["names","rules"] ["names","rules"] (A7 Ko):=⟨rfl,rfl,rfl,by decide +kernel,rfl,by decide +kernel,by decide +kernel⟩
theorem Yc {f fSR:Addr} {fd fdSR:FuncData} (F:Fun K "shown" "shown" Ko f fd) (GSR:FnOk P w K mg base CX0 4 fSR fdSR ["names","rule"] (S1 K)) (mSR:mg "show_rule" = some (.ref fSR)) (kSR:Θk K fSR) (bSR:Binds K fdSR ["names","rule"] []):FnOk P w K mg base CX0 5 f fd ["names","rules"] (Cd K):=by
 refine F.ok scShown (fun vs H Q E h=>?_) (fun cdv A outer s H vs Q E hr h=>?_)
 ·obtain ⟨np,rl,nms,rs,rfl,_⟩:=h
  rfl
 ·obtain ⟨np,rl,nms,rs,rfl,hn,NN,hrl,hR,l12,q⟩:=h
  have nd:=scShown.nd
  have hr4:Room 4 _:=hr.mono (by decide)
  refine ⟨_,(A4 (A9 (I9 PySem.F.plainAttrs_str PySem.F.slot_str_join PySem.F.type_str_join N3 B9 (A0 (B0 K6 (E5 (A0 (I9 PySem.F.plainAttrs_str PySem.F.slot_str_join PySem.F.type_str_join N3 B9 (A0 (B0 K6 (E5 (A0 B9 A1)) (pv 0)) A1)) A1)) (K0 (xs:=["rule"]) (cs ["names","rules"] (A7 Ko) rfl rfl (by decide +kernel)) rfl (E3 (K:=K) rfl (pv 1)) (fun _ _ _=>C5 (i:=0) (show (["rule","names","rules"]:List Str).Nodup by decide +kernel) rfl (Or.inl rfl)) (fun _ _ _=>K5) (fun _ _ _=>(A8 GSR hr4 rfl mSR kSR bSR .nil B2 (A0 (pv 1) (A0 (pv 0) A1)))))) A1)))),?_⟩
  have l7:=NN.l7
  refine ⟨rfl,rfl,(by show 1<=sizeLine; decide),fun l1 hl1=>?_⟩
  have s1:=Same.new (o:=.lst [V.str columnsS]) hl1
  have h1:(upd H l1 (.lst [V.str columnsS])) l1=some (.lst [V.str columnsS]):=A3
  have hn1:=s1 _ _ hn
  refine ⟨_,rfl,l1,np,_,_,rfl,rfl,h1,hn1,Nat.le_of_lt (D0 (by rw [Θl]; show 1 + _<=1000; omega)),fun l2 hl2=>?_⟩
  have s2:=s1.trans (Same.new (o:=.lst ((columnsS :: nms).map V.str)) hl2)
  have h2:(upd (upd H l1 (.lst [V.str columnsS])) l2 (.lst ((columnsS :: nms).map V.str))) l2=some (.lst ((columnsS :: nms).map V.str)):=A3
  refine ⟨C8,l2,columnsS :: nms,rfl,rfl,SqL.of h2,Q2 (fun x hx=>(W8 NN x hx).2) rfl (by rw [ZA]; omega),?_⟩
  rw [N1]
  have hgen:∀H2:Hp,H2=upd (upd H l1 (.lst [V.str columnsS])) l2 (.lst ((columnsS :: nms).map V.str))->Same H H2:=fun H2 e=>by rw [e]; exact s2
  generalize hHH:upd (upd H l1 _) l2 _=H2
  replace s2:=hgen H2 hHH.symm
  clear hgen hHH h2 h1 hn1 s1 hl1 hl2
  refine ⟨(by show 1<=sizeLine; decide),fun l3 hl3=>?_⟩
  have s3:=s2.trans (Same.new (o:=.lst [V.str (P0 nms)]) hl3)
  have h3:(upd H2 l3 (.lst [V.str (P0 nms)])) l3=some (.lst [V.str (P0 nms)]):=A3
  have hgen:∀H3:Hp,H3=upd H2 l3 (.lst [V.str (P0 nms)])->Same H H3/\H3 l3=some (.lst [V.str (P0 nms)]):=fun H3 e=>by rw [e]; exact ⟨s3,h3⟩
  generalize hHH:upd H2 l3 _=H3
  obtain ⟨s3,h3⟩:=hgen H3 hHH.symm
  clear hgen hHH s2 hl3
  have lr:(rs.map fun (r:Rl)=>V.ref r.r).length=rs.length:=Θl ..
  refine ⟨_,rfl,rl,rfl,⟨_,s3.seq hrl⟩,L6 (K:=K) (xs:=rs.map fun (r:Rl)=>V.ref r.r) (fun j acc H'=>Same H H'/\H' l3=some (.lst [V.str (P0 nms)])/\acc=(((rs.map Rl.d).take j).map (K3 nms)).map V.str) (by omega) ⟨s3,h3,rfl⟩ (fun j acc H' hj h=>?_) (fun j v acc H' hv h=>?_) (fun acc H' h=>?_)⟩
  ·obtain ⟨s4,h4,rfl⟩:=h
   exact ⟨s4.seq hrl,by rw [Θl,Θl]; exact List.length_take_le _ _⟩
  ·obtain ⟨s4,h4,rfl⟩:=h
   rw [Θg] at hv
   cases ec:rs[j]? with
   | none=>rw [ec] at hv; cases hv
   | some r=>
    rw [ec] at hv
    obtain rfl:=(Θo hv).symm
    have hr':=hR r (Θe ec)
    refine ⟨rfl,_,rfl,_,rfl,np,nms,r,rfl,SqL.of (s4 _ _ hn),NN,s4 _ _ hr'.1,hr'.2,fun H5 s5=>⟨s4.trans s5,s5 _ _ h4,?_⟩⟩
    rw [List.take_succ,Θg,ec,Zw_,Zw_]
    rfl
  obtain ⟨s4,h4,rfl⟩:=h
  have et:(rs.map Rl.d).take (rs.map fun (r:Rl)=>V.ref r.r).length=rs.map Rl.d:=List.take_of_length_le (by rw [lr,Θl]; exact Zd_ _)
  rw [et]
  intro l4 hl4
  have s5:=Same.new (o:=.lst (((rs.map Rl.d).map (K3 nms)).map V.str)) hl4
  have h5:(upd H' l4 (.lst (((rs.map Rl.d).map (K3 nms)).map V.str))) l4=some (.lst (((rs.map Rl.d).map (K3 nms)).map V.str)):=A3
  have h45:=s5 _ _ h4
  replace s5:=s4.trans s5
  generalize upd H' l4 (.lst (((rs.map Rl.d).map (K3 nms)).map V.str))=H5 at s5 h5 h45
  refine ⟨l3,l4,_,_,rfl,rfl,h45,h5,Nat.le_of_lt (D0 (by rw [Θl,Θl,Θl]; show 1 + _<=1000; omega)),fun l5 hl5=>?_⟩
  have hin:=Br hR
  refine ⟨nlS,l5,O0 nms (rs.map Rl.d),rfl,rfl,SqL.of A3,Q2 (fun x hx=>(X1 NN hin x hx).2) rfl (by rw [U4,Θl]; omega),?_⟩
  rw [N1]
  exact q _ (s5.trans (Same.new hl5))
noncomputable abbrev Ki:Stmt:=top 90
theorem scLText:FnScope ["_law_names_here","_law_rules_here"] ["_law_names_here","_law_rules_here"] (A7 Ki):=⟨rfl,rfl,rfl,by decide +kernel,rfl,by decide +kernel,by decide +kernel⟩
theorem Xx {f fLL:Addr} {fd fdLL:FuncData} (F:Fun K "_law_text" "_law_text" Ki f fd) (GLL:FnOk P w K mg base CX0 2 fLL fdLL ["_law_names_here","_law_rule_here"] (S1 K)) (mLL:mg "_law_line" = some (.ref fLL)) (kLL:Θk K fLL) (bLL:Binds K fdLL ["_law_names_here","_law_rule_here"] []):FnOk P w K mg base CX0 3 f fd ["_law_names_here","_law_rules_here"] (Cd K):=by
 refine F.ok scLText (fun vs H Q E h=>?_) (fun cdv A outer s H vs Q E hr h=>?_)
 ·obtain ⟨np,rl,nms,rs,rfl,_⟩:=h
  rfl
 ·obtain ⟨np,rl,nms,rs,rfl,hn,NN,hrl,hR,l12,q⟩:=h
  have nd:=scLText.nd
  have hr2:Room 2 _:=hr.mono (by decide)
  refine ⟨_,(A4 (A9 (I9 PySem.F.plainAttrs_str PySem.F.slot_str_join PySem.F.type_str_join N3 B9 (A0 (B0 K6 (E5 (A0 (I9 PySem.F.plainAttrs_str PySem.F.slot_str_join PySem.F.type_str_join N3 B9 (A0 (B0 K6 (E5 (A0 B9 A1)) (pv 0)) A1)) A1)) (K0 (xs:=["_law_rule_here"]) (cs ["_law_names_here","_law_rules_here"] (A7 Ki) rfl rfl (by decide +kernel)) rfl (E3 (K:=K) rfl (pv 1)) (fun _ _ _=>C5 (i:=0) (show (["_law_rule_here","_law_names_here","_law_rules_here"]:List Str).Nodup by decide +kernel) rfl (Or.inl rfl)) (fun _ _ _=>K5) (fun _ _ _=>(A8 GLL hr2 rfl mLL kLL bLL .nil B2 (A0 (pv 1) (A0 (pv 0) A1)))))) A1)))),?_⟩
  have l7:=NN.l7
  refine ⟨rfl,rfl,(by show 1<=sizeLine; decide),fun l1 hl1=>?_⟩
  have s1:=Same.new (o:=.lst [V.str columnsS]) hl1
  have h1:(upd H l1 (.lst [V.str columnsS])) l1=some (.lst [V.str columnsS]):=A3
  have hn1:=s1 _ _ hn
  refine ⟨_,rfl,l1,np,_,_,rfl,rfl,h1,hn1,Nat.le_of_lt (D0 (by rw [Θl]; show 1 + _<=1000; omega)),fun l2 hl2=>?_⟩
  have s2:=s1.trans (Same.new (o:=.lst ((columnsS :: nms).map V.str)) hl2)
  have h2:(upd (upd H l1 (.lst [V.str columnsS])) l2 (.lst ((columnsS :: nms).map V.str))) l2=some (.lst ((columnsS :: nms).map V.str)):=A3
  refine ⟨C8,l2,columnsS :: nms,rfl,rfl,SqL.of h2,Q2 (fun x hx=>(W8 NN x hx).2) rfl (by rw [ZA]; omega),?_⟩
  rw [N1]
  have hgen:∀H2:Hp,H2=upd (upd H l1 (.lst [V.str columnsS])) l2 (.lst ((columnsS :: nms).map V.str))->Same H H2:=fun H2 e=>by rw [e]; exact s2
  generalize hHH:upd (upd H l1 _) l2 _=H2
  replace s2:=hgen H2 hHH.symm
  clear hgen hHH h2 h1 hn1 s1 hl1 hl2
  refine ⟨(by show 1<=sizeLine; decide),fun l3 hl3=>?_⟩
  have s3:=s2.trans (Same.new (o:=.lst [V.str (P0 nms)]) hl3)
  have h3:(upd H2 l3 (.lst [V.str (P0 nms)])) l3=some (.lst [V.str (P0 nms)]):=A3
  have hgen:∀H3:Hp,H3=upd H2 l3 (.lst [V.str (P0 nms)])->Same H H3/\H3 l3=some (.lst [V.str (P0 nms)]):=fun H3 e=>by rw [e]; exact ⟨s3,h3⟩
  generalize hHH:upd H2 l3 _=H3
  obtain ⟨s3,h3⟩:=hgen H3 hHH.symm
  clear hgen hHH s2 hl3
  have lr:(rs.map fun (r:Rl)=>V.ref r.r).length=rs.length:=Θl ..
  refine ⟨_,rfl,rl,rfl,⟨_,s3.seq hrl⟩,L6 (K:=K) (xs:=rs.map fun (r:Rl)=>V.ref r.r) (fun j acc H'=>Same H H'/\H' l3=some (.lst [V.str (P0 nms)])/\acc=(((rs.map Rl.d).take j).map (K3 nms)).map V.str) (by omega) ⟨s3,h3,rfl⟩ (fun j acc H' hj h=>?_) (fun j v acc H' hv h=>?_) (fun acc H' h=>?_)⟩
  ·obtain ⟨s4,h4,rfl⟩:=h
   exact ⟨s4.seq hrl,by rw [Θl,Θl]; exact List.length_take_le _ _⟩
  ·obtain ⟨s4,h4,rfl⟩:=h
   rw [Θg] at hv
   cases ec:rs[j]? with
   | none=>rw [ec] at hv; cases hv
   | some r=>
    rw [ec] at hv
    obtain rfl:=(Θo hv).symm
    have hr':=hR r (Θe ec)
    refine ⟨rfl,_,rfl,_,rfl,np,nms,r,rfl,SqL.of (s4 _ _ hn),NN,s4 _ _ hr'.1,hr'.2,fun H5 s5=>⟨s4.trans s5,s5 _ _ h4,?_⟩⟩
    rw [List.take_succ,Θg,ec,Zw_,Zw_]
    rfl
  obtain ⟨s4,h4,rfl⟩:=h
  have et:(rs.map Rl.d).take (rs.map fun (r:Rl)=>V.ref r.r).length=rs.map Rl.d:=List.take_of_length_le (by rw [lr,Θl]; exact Zd_ _)
  rw [et]
  intro l4 hl4
  have s5:=Same.new (o:=.lst (((rs.map Rl.d).map (K3 nms)).map V.str)) hl4
  have h5:(upd H' l4 (.lst (((rs.map Rl.d).map (K3 nms)).map V.str))) l4=some (.lst (((rs.map Rl.d).map (K3 nms)).map V.str)):=A3
  have h45:=s5 _ _ h4
  replace s5:=s4.trans s5
  generalize upd H' l4 (.lst (((rs.map Rl.d).map (K3 nms)).map V.str))=H5 at s5 h5 h45
  refine ⟨l3,l4,_,_,rfl,rfl,h45,h5,Nat.le_of_lt (D0 (by rw [Θl,Θl,Θl]; show 1 + _<=1000; omega)),fun l5 hl5=>?_⟩
  have hin:=Br hR
  refine ⟨nlS,l5,O0 nms (rs.map Rl.d),rfl,rfl,SqL.of A3,Q2 (fun x hx=>(X1 NN hin x hx).2) rfl (by rw [U4,Θl]; omega),?_⟩
  rw [N1]
  exact q _ (s5.trans (Same.new hl5))
end
end Own
namespace Own
open PySem L2
section
variable {P:Program} {w:World} {K:Θf} {mg:Str->Option Value} {base:Heap}
seal PySem.wpAny
noncomputable abbrev Yx:Stmt:=top 95
theorem scAnew:FnScope ["_law_desk","_law_names_here","_law_rules_here","_law_rows","_law_anew","_law_row"] ["_law_desk","_law_names_here","_law_rules_here","_law_rows"] (A7 Yx):=⟨rfl,rfl,rfl,by decide +kernel,rfl,by decide +kernel,by decide +kernel⟩
theorem Abh {f fLT fAN fDI CD:Addr} {fd fdLT fdAN fdDI:FuncData} (F:Fun K "_law_as_anew" "_law_as_anew" Yx f fd) (GLT:FnOk P w K mg base CX0 3 fLT fdLT ["_law_names_here","_law_rules_here"] (Cd K)) (mLT:mg "_law_text" = some (.ref fLT)) (kLT:Θk K fLT) (bLT:Binds K fdLT ["_law_names_here","_law_rules_here"] []) (GAN:FnOk P w K mg base CX0 138 fAN fdAN ["_law_desk","_law_row"] (Zs K CD)) (mAN:mg "_law_answer" = some (.ref fAN)) (kAN:Θk K fAN) (bAN:Binds K fdAN ["_law_desk","_law_row"] []) (MD:Mk K CD fDI) (GDI:FnOk P w K mg base CX0 5 fDI fdDI ["self","text"] (Kv CD)) (bDI:Binds K fdDI ["self","text"] []) (mDK:mg "Desk" = some (.ref CD)):FnOk P w K mg base CX0 139 f fd ["_law_desk","_law_names_here","_law_rules_here","_law_rows"] (Ps K CD):=by
 refine F.ok scAnew (fun vs H Q E h=>?_) (fun cdv A outer s H vs Q E hr h=>?_)
 ·obtain ⟨d,dn,dl,np,rl,ro,nms,ks,rs,ts,rfl,_⟩:=h
  rfl
 ·obtain ⟨d,dn,dl,np,rl,ro,nms,ks,rs,ts,rfl,hD,hdn,hdl,hK,ek,hn,NN,NNW,hrl,hR,hy,l12,hro,lt,hA,q⟩:=h
  have nd:=scAnew.nd
  have hr3:Room 3 _:=hr.mono (by decide)
  have hr6:Room 6 _:=hr.mono (by decide)
  have hrA:Room 138 _:=hr.mono (by decide)
  have lk:ks.length<=12:=by
   have:=congrArg List.length ek
   rw [Θl,Θl] at this
   omega
  have hin:∀r∈rs.map Rl.d,InR nms r/\r.2.2≠0:=fun r hr'=>by
   obtain ⟨k,hk,rfl⟩:=Θn hr'
   exact ⟨(hR k hk).2,hy k hk⟩
  have ml:(ts.map V.str).length=ts.length:=Θl ..
  refine ⟨_,(A2 (C0 (i:=4) nd rfl (Or.inl rfl) (Re MD GDI hr6 (by rfl) mDK bDI .nil B2 (A0 (A8 GLT hr3 rfl mLT kLT bLT .nil B2 (A0 (pv 1) (A0 (pv 2) A1))) A1)))
   (A2 (K7 PassesOwn.never rfl (E3 (K:=K) rfl (pv 3)) (C5 (i:=5) nd rfl (Or.inl rfl)) (A4 (D1 (B1 op_ne (A8 GAN hrA rfl mAN kAN bAN .nil B2 (A0 (pv 0) (A0 (pv 5) A1))) (A8 GAN hrA rfl mAN kAN bAN .nil B2 (A0 (pv 4) (A0 (pv 5) A1))) (C3 _)) (A4 (A9 Q7)) C1)))
   (A4 (A9 Q7)))),?_⟩
  refine ⟨_,rfl,_,rfl,np,rl,nms,rs,rfl,hn,NN,hrl,hR,l12,fun H3 s3 e dx he0 hdx0 ndx=>?_⟩
  refine ⟨e,dx,nms,rs.map Rl.d,rfl,A3,NN,NNW,hin,by rw [Θl]; exact l12,fun nl2 rl2 js H5 B5 n1 n2 n3 hn0 hr0 hE ej hJ hn5 hr5=>⟨rfl,?_⟩⟩
  have s5:Same H3 H5:=fun b o eb=>by
   have z1:b≠e:=C7 eb he0
   have z2:b≠dx:=C7 eb hdx0
   exact B5 b o (by rw [C6 z1,C6 z2]; exact eb) z1
  have lj:js.length<=12:=by
   have:=congrArg List.length ej
   rw [Θl,Θl] at this
   omega
  replace s5:=s3.trans s5
  refine ⟨_,rfl,ro,rfl,⟨_,s5.seq hro⟩,M6 (K:=K) (xs:=ts.map V.str) (fun i σ H'=>(∃v5,σ=[some (.ref d),some (.ref np),some (.ref rl),some (.ref ro),some (.ref e),v5])/\Same H H'/\Same H5 H') ⟨⟨_,rfl⟩,s5,Same.refl _⟩ (fun i σ H' _ h=>h.2.1.seq hro) ?_ ?_⟩
  ·rintro i v σ H6 hv ⟨⟨v5,rfl⟩,s6,s56⟩
   rw [Θg] at hv
   cases ec:ts[i]? with
   | none=>rw [ec] at hv; cases hv
   | some t=>
    rw [ec] at hv
    obtain rfl:=(Θo hv).symm
    obtain ⟨a,ha,rfl⟩:=hA t (Θe ec)
    refine ⟨_,rfl,_,rfl,d,dn,dl,nms,ks,a,rfl,hD.same s6,s6 _ _ hdn,NN,s6.seq hdl,hK.same s6,lk,ha,fun H7 s7=>?_⟩
    have s57:=s56.trans s7
    refine ⟨_,rfl,_,rfl,e,nl2,rl2,nms,js,a,rfl,hE.same s57,s57 _ _ hn5,NN,SqL.of (s57 _ _ hr5),hJ.same s57,lj,ha,fun H8 s8=>?_⟩
    rw [ek,ej]
    refine ⟨?_,_,rfl,?_⟩
    ·cases Sn nms (rs.map Rl.d) a <;> rfl
    rw [Zr_ rfl]
    refine E7 ?_
    exact ⟨⟨_,rfl⟩,(s6.trans s7).trans s8,s57.trans s8⟩
  ·rintro σ H6 ⟨⟨v5,rfl⟩,s6,s56⟩
   exact q _ s6
end
end Own
namespace Own
open PySem L2
section
variable {P:Program} {w:World} {K:Θf} {mg:Str->Option Value} {base:Heap}
seal PySem.wpAny
noncomputable abbrev Gk:Stmt:=top 69
theorem scShowSet:FnScope ["names","some"] ["names","some"] (A7 Gk):=⟨rfl,rfl,rfl,by decide +kernel,rfl,by decide +kernel,by decide +kernel⟩
theorem Ox {f fNI:Addr} {fd fdNI:FuncData} (F:Fun K "show_set" "show_set" Gk f fd) (GNI:FnOk P w K mg base CX0 3 fNI fdNI ["names","some"] (R4 K)) (mNI:mg "names_in" = some (.ref fNI)) (kNI:Θk K fNI) (bNI:Binds K fdNI ["names","some"] []):FnOk P w K mg base CX0 4 f fd ["names","some"] (T0 K):=by
 refine F.ok scShowSet (fun vs H Q E h=>?_) (fun cdv A outer s H vs Q E hr h=>?_)
 ·obtain ⟨np,nms,z,rfl,_⟩:=h
  rfl
 ·obtain ⟨np,nms,z,rfl,hn,NN,hz,q⟩:=h
  have nd:=scShowSet.nd
  have hr3:Room 3 _:=hr.mono (by decide)
  refine ⟨_,(A2 (D1 (B1 O1 (pv 1) A5 (C3 _)) (A4 (A9 B9)) C1)
   (A4 (A9 (I9 PySem.F.plainAttrs_str PySem.F.slot_str_join PySem.F.type_str_join N3 B9 (A0 (A8 GNI hr3 rfl mNI kNI bNI .nil B2 (A0 (pv 0) (A0 (pv 1) A1))) A1))))),?_⟩
  refine ⟨_,rfl,z,0,rfl,rfl,_,rfl,E8 (fun hc=>?_) (fun hc=>?_)⟩
  ·obtain rfl:z=0:=Zj_ hc
   exact q _ (Same.refl _)
  ·have z0:z≠0:=fun e=>hc (Zr_ e)
   refine ⟨rfl,_,rfl,_,rfl,np,nms,z,rfl,hn,NN,hz,fun l H1 s1 hl0 hl=>?_⟩
   refine ⟨_,l,D8 nms z,rfl,rfl,SqL.of hl,Xj NN hz,?_⟩
   have e:D3 nms z=Txt.join commaS (D8 nms z):=by unfold D3; rw [if_neg z0,N1]
   have q1:=q H1 s1
   rw [e] at q1
   exact q1
noncomputable abbrev Gh:Stmt:=top 70
theorem scReadSet:FnScope ["names","text","some"] ["names","text"] (A7 Gh):=⟨rfl,rfl,rfl,by decide +kernel,rfl,by decide +kernel,by decide +kernel⟩
theorem Ou {f fSN CST:Addr} {fd fdSN:FuncData} (F:Fun K "read_set" "read_set" Gh f fd) (GSN:FnOk P w K mg base CX0 1 fSN fdSN ["names","words"] (Au K)) (mSN:mg "set_named" = some (.ref fSN)) (kSN:Θk K fSN) (bSN:Binds K fdSN ["names","words"] []) (OST:Exc K "NoSet" CST) (zisinstance:mg "isinstance" = none) (zstr:mg "str" = none):FnOk P w K mg base (CX1 P w) 2 f fd ["names","text"] (Z1 K CST):=by
 refine F.ok1 scReadSet (fun vs H Q E h=>?_) (fun cdv A outer s H vs Q E hr h=>?_)
 ·obtain ⟨np,nms,t,rfl,_⟩:=h
  rfl
 ·obtain ⟨np,nms,t,rfl,hn,NN,lt,ct,q0,q1,qe⟩:=h
  have nd:=scReadSet.nd
  have hr1:Room 1 _:=hr.mono (by decide)
  refine ⟨_,(A2 (D1 (R9 (K8 (D2 (Fg (K:=K) rfl) (by rfl) zisinstance PyProof.Rows.boot_isinstance (A0 (pv 1) (A0 (Jx (v:=.ty "str") rfl zstr PyProof.Rows.boot_str rfl) A1))))) (A4 (U8 (EX:=E) OST (by rfl) rfl (A0 B9 A1) (fun _ _ _ _ _ _ _ I hx hE=>R3 I hx hE))) C1)
   (A2 (D1 (B1 op_eq (pv 1) B9 (C3 _)) (A4 (A9 A5)) C1)
   (A2 (C0 (i:=2) nd rfl (Or.inl rfl) (A8 GSN hr1 rfl mSN kSN bSN .nil B2 (A0 (pv 0) (A0 (I9 PySem.F.plainAttrs_str PySem.F.slot_str_split PySem.F.type_str_split Xi (pv 1) (A0 B9 A1)) A1))))
   (A2 (D1 (B1 V8 (pv 2) F5 (C3 _)) (A4 (U8 (EX:=E) OST (by rfl) rfl (A0 (Aej (pv 1)) A1) (fun _ _ _ _ _ _ _ I hx hE=>R3 I hx hE))) C1)
   (A4 (A9 (pv 2))))))),?_⟩
  refine ⟨_,rfl,_,_,_,true,rfl,.str _,rfl,_,rfl,E7 ?_⟩
  refine ⟨_,rfl,rfl,_,rfl,E8 (fun hc=>?_) (fun hc=>?_)⟩
  ·have e:t=Dt:=by
    have:=Zj_ hc
    injection this
   exact q0 e
  ·have td:t≠Dt:=fun e=>hc (Zr_ (by rw [e]; rfl))
   have sl:=Uw t
   refine ⟨_,rfl,_,rfl,rfl,t,commaS,rfl,rfl,rfl,by omega,by omega,fun D hD=>?_⟩
   have s1:=Same.new (o:=.lst ((Txt.split t commaS).map V.str)) hD
   refine ⟨np,D,nms,Txt.split t commaS,rfl,s1.seq hn,NN,SqL.of A3,by omega,fun s hs e=>?_,fun no=>?_⟩
   ·exact ⟨_,rfl,rfl,_,rfl,E7 ⟨_,rfl,q1 s _ s1 td hs e⟩⟩
   ·refine ⟨_,rfl,rfl,_,rfl,N9 ?_⟩
    have rl:=StrLaws.reprText_len t fun c hc'=>Zq_ (ct c hc') (by decide)
    refine ⟨_,rfl,t,rfl,by omega,fun y=>?_⟩
    exact ⟨(by show 1<=sizeLine; decide),qe ⟨td,no⟩ _ s1⟩
noncomputable abbrev Aey:Stmt:=top 91
theorem scSet:FnScope ["_law_names_here","_law_some"] ["_law_names_here","_law_some"] (A7 Aey):=⟨rfl,rfl,rfl,by decide +kernel,rfl,by decide +kernel,by decide +kernel⟩
theorem Ad9 {f fIN:Addr} {fd fdIN:FuncData} (F:Fun K "_law_set" "_law_set" Aey f fd) (GIN:FnOk P w K mg base CX0 1 fIN fdIN ["_law_names_here","_law_some"] (R4 K)) (mIN:mg "_law_in" = some (.ref fIN)) (kIN:Θk K fIN) (bIN:Binds K fdIN ["_law_names_here","_law_some"] []):FnOk P w K mg base CX0 2 f fd ["_law_names_here","_law_some"] (T0 K):=by
 refine F.ok scSet (fun vs H Q E h=>?_) (fun cdv A outer s H vs Q E hr h=>?_)
 ·obtain ⟨np,nms,z,rfl,_⟩:=h
  rfl
 ·obtain ⟨np,nms,z,rfl,hn,NN,hz,q⟩:=h
  have nd:=scSet.nd
  have hr1:Room 1 _:=hr.mono (by decide)
  refine ⟨_,(A2 (D1 (B1 O1 (pv 1) A5 (C3 _)) (A4 (A9 B9)) C1)
   (A4 (A9 (I9 PySem.F.plainAttrs_str PySem.F.slot_str_join PySem.F.type_str_join N3 B9 (A0 (A8 GIN hr1 rfl mIN kIN bIN .nil B2 (A0 (pv 0) (A0 (pv 1) A1))) A1))))),?_⟩
  refine ⟨_,rfl,z,0,rfl,rfl,_,rfl,E8 (fun hc=>?_) (fun hc=>?_)⟩
  ·obtain rfl:z=0:=Zj_ hc
   exact q _ (Same.refl _)
  ·have z0:z≠0:=fun e=>hc (Zr_ e)
   refine ⟨rfl,_,rfl,_,rfl,np,nms,z,rfl,hn,NN,hz,fun l H1 s1 hl0 hl=>?_⟩
   refine ⟨_,l,D8 nms z,rfl,rfl,SqL.of hl,Xj NN hz,?_⟩
   have e:D3 nms z=Txt.join commaS (D8 nms z):=by unfold D3; rw [if_neg z0,N1]
   have q1:=q H1 s1
   rw [e] at q1
   exact q1
end
end Own
namespace L2
open PySem PySem.Spec PyProof.Rows
noncomputable def Ry (K:Θf):Sp:=fun vs H Q _=>∃(np:Addr) (nms:List Str) (c:Nat),vs=[.ref np,vN c]/\NAt K H np nms/\NM nms/\c < 2 ^ 32/\∀(a:Ask) (H':Hp),W5 nms.length a->Same H H'->Q (.str (Str.join C8 (O2 nms a))) H'
theorem Yo {nms:List Str} {st:Bool} {x y z:Nat} (hx:x < 2 ^ nms.length) (hy:y < 2 ^ nms.length) (hz:z < 2 ^ nms.length) (e:x|||z=2 ^ nms.length - 1) (k:Nat) (hk:k < 8) :
  ∃a,W5 nms.length a/\([V.str (Str.ofString "follows "++D3 nms x++Str.ofString " "++D6 st++Str.ofString " "++D3 nms y),V.str (Str.ofString "keys"),V.str (Str.ofString "cover"),V.str (Str.ofString "parts"),V.str (Str.ofString "tree"),V.str (Str.ofString "cut "++D3 nms x++Str.ofString " "++D3 nms z)]++[V.str (Str.ofString "part "++D3 nms x++Str.ofString " settle "++D3 nms y),V.str (Str.ofString "keys")])[k]? = some (V.str (Str.join C8 (O2 nms a))):=by
 have:k=0\/k=1\/k=2\/k=3\/k=4\/k=5\/k=6\/k=7:=by omega
 rcases this with rfl | rfl | rfl | rfl | rfl | rfl | rfl | rfl
 ·exact ⟨.fol st x y,⟨hx,hy⟩,by rw [Aca]; rfl⟩
 ·exact ⟨.keys,trivial,rfl⟩
 ·exact ⟨.cover,trivial,rfl⟩
 ·exact ⟨.parts,trivial,rfl⟩
 ·exact ⟨.tree,trivial,rfl⟩
 ·exact ⟨.cut x z,⟨hx,hz,e⟩,by rw [Ab9]; rfl⟩
 ·exact ⟨.part x y,⟨hx,hy⟩,by rw [Ys]; rfl⟩
 ·exact ⟨.keys,trivial,rfl⟩
theorem Rh (a w b:Str):Str.ofString "let "++a++Str.ofString " "++w++Str.ofString " "++b=Str.join C8 [Lx,a,w,b]:=by
 rw [show Str.ofString "let " = Lx++C8 from rfl]
 show _=Lx++C8++(a++C8++(w++C8++b))
 rw [show Str.ofString " " = C8 from rfl]
 simp only [Str.append_assoc]
end L2
namespace Own
open PySem L2
section
variable {P:Program} {w:World} {K:Θf} {mg:Str->Option Value} {base:Heap}
seal PySem.wpAny
noncomputable abbrev Pm:Stmt:=top 97
theorem scQuest:FnScope ["_law_names_here","_law_cell","_law_word","_law_left","_law_right","_law_one","_law_other","_law_rest","_law_some"] ["_law_names_here","_law_cell"] (A7 Pm):=⟨rfl,rfl,rfl,by decide +kernel,rfl,by decide +kernel,by decide +kernel⟩
theorem Ya {f fRU fSE:Addr} {fd fdRU fdSE:FuncData} (F:Fun K "_law_question" "_law_question" Pm f fd) (GRU:FnOk P w K mg base CX0 1 fRU fdRU ["_law_cell","_law_many"] Cb) (mRU:mg "_law_rule" = some (.ref fRU)) (kRU:Θk K fRU) (bRU:Binds K fdRU ["_law_cell","_law_many"] []) (GSE:FnOk P w K mg base CX0 2 fSE fdSE ["_law_names_here","_law_some"] (T0 K)) (mSE:mg "_law_set" = some (.ref fSE)) (kSE:Θk K fSE) (bSE:Binds K fdSE ["_law_names_here","_law_some"] []) (zlen:mg "len" = none):FnOk P w K mg base CX0 3 f fd ["_law_names_here","_law_cell"] (Ry K):=by
 refine F.ok scQuest (fun vs H Q E h=>?_) (fun cdv A outer s H vs Q E hr h=>?_)
 ·obtain ⟨np,nms,c,rfl,_⟩:=h
  rfl
 ·obtain ⟨np,nms,c,rfl,hn,NN,hc,q⟩:=h
  have nd:=scQuest.nd
  have hr1:Room 1 _:=hr.mono (by decide)
  have hr2:Room 2 _:=hr.mono (by decide)
  have l7:=NN.l7
  have pp:0 < 2 ^ nms.length:=Nat.two_pow_pos _
  have ln:(nms.map V.str).length=nms.length:=Θl ..
  have sz:=sizeLine_eq
  have c8:c / 8 < 2 ^ 32:=Nat.lt_of_le_of_lt (Nat.div_le_self _ _) hc
  refine ⟨_,(A2 (Gc (A8 GRU hr1 rfl mRU kRU bRU .nil B2 (A0 (B0 F4 (pv 1) A5) (A0 (D2 (D9 (K:=K) rfl) (by rfl) zlen PySem.boot_len (A0 (pv 0) A1)) A1))) (T6 rfl (E1 (C5 (i:=2) nd rfl (Or.inl rfl)) (E1 (C5 (i:=3) nd rfl (Or.inl rfl)) (E1 (C5 (i:=4) nd rfl (Or.inl rfl)) N4)))))
   (A2 (C0 (i:=5) nd rfl (Or.inl rfl) (A8 GSE hr2 rfl mSE kSE bSE .nil B2 (A0 (pv 0) (A0 (pv 3) A1))))
   (A2 (C0 (i:=6) nd rfl (Or.inl rfl) (A8 GSE hr2 rfl mSE kSE bSE .nil B2 (A0 (pv 0) (A0 (pv 4) A1))))
   (A2 (C0 (i:=7) nd rfl (Or.inl rfl) (A8 GSE hr2 rfl mSE kSE bSE .nil B2 (A0 (pv 0) (A0 (B0 X4 (pv 4) (B0 Rb (B0 Rb (B0 P9 A5 (D2 (D9 (K:=K) rfl) (by rfl) zlen PySem.boot_len (A0 (pv 0) A1))) A5) (pv 3))) A1))))
   (A2 (C0 (i:=8) nd rfl (Or.inl rfl) (E5 (A0 (B0 D7 (B0 D7 (B0 D7 (B0 D7 (B0 D7 B9 (pv 5)) B9) (pv 2)) B9) (pv 6)) (A0 B9 (A0 B9 (A0 B9 (A0 B9 (A0 (B0 D7 (B0 D7 (B0 D7 B9 (pv 5)) B9) (pv 7)) A1))))))))
   (A4 (A9 (C4 (C9 (K:=K) rfl) (B0 K6 (pv 8) (E5 (A0 (B0 D7 (B0 D7 (B0 D7 B9 (pv 5)) B9) (pv 6)) (A0 B9 A1)))) (B0 E2 (pv 1) A5) (fun _ _=>rfl))))))))),?_⟩
  refine ⟨_,rfl,c,8,rfl,rfl,(by show 0 < 8/\8 < 1073741824; decide),_,rfl,np,_,rfl,.inl hn,?_⟩
  rw [ln]
  refine ⟨c / 8,nms.length,rfl,c8,NN.l1,l7,fun st x y r H1 hx hy s1 hr0 hr1'=>?_⟩
  refine ⟨r,_,rfl,SqT.of hr1',rfl,_,_,rfl,_,_,rfl,_,_,rfl,rfl,?_⟩
  have lx:=F0 NN hx
  have ly:=F0 NN hy
  have lw:=S6 st
  refine ⟨_,rfl,_,rfl,np,nms,x,rfl,s1.seq hn,NN,hx,fun H2 s2=>?_⟩
  replace s2:=s1.trans s2
  refine ⟨_,rfl,_,rfl,np,nms,y,rfl,s2.seq hn,NN,hy,fun H3 s3=>?_⟩
  replace s3:=s2.trans s3
  refine ⟨_,rfl,_,rfl,_,rfl,np,_,rfl,.inl (s3.seq hn),?_⟩
  rw [ln]
  refine ⟨nms.length,rfl,rfl,by omega,2 ^ nms.length,1,rfl,rfl,pp,_,rfl,2 ^ nms.length - 1,x,rfl,rfl,(by omega),y,2 ^ nms.length - 1 - x,rfl,rfl,?_⟩
  have hxy:=Yg hx hy
  have hz:y|||(2 ^ nms.length - 1 - x) < 2 ^ nms.length:=Nat.or_lt_two_pow hy (by omega)
  dsimp (config:={ proj:=false,iota:=false }) only
  generalize y|||(2 ^ nms.length - 1 - x)=z at hxy hz
  have lz:=F0 NN hz
  refine ⟨np,nms,z,rfl,s3.seq hn,NN,hz,fun H4 s4=>?_⟩
  replace s4:=s3.trans s4
  refine ⟨_,rfl,_,_,rfl,rfl,(by (try simp only [Str.length_append]); show 8 + _<=sizeLine; omega),_,_,rfl,rfl,(by (try simp only [Str.length_append]); show 8 + _ + 1<=sizeLine; omega),_,rfl,_,_,rfl,rfl,(by (try simp only [Str.length_append]); show 8 + _ + 1 + _<=sizeLine; omega),_,_,rfl,rfl,(by (try simp only [Str.length_append]); show 8 + _ + 1 + _ + 1<=sizeLine; omega),_,rfl,_,_,rfl,rfl,(by (try simp only [Str.length_append]); show 8 + _ + 1 + _ + 1 + _<=sizeLine; omega),_,rfl,_,_,rfl,rfl,(by (try simp only [Str.length_append]); show 4 + _<=sizeLine; omega),_,_,rfl,rfl,(by (try simp only [Str.length_append]); show 4 + _ + 1<=sizeLine; omega),_,rfl,_,_,rfl,rfl,(by (try simp only [Str.length_append]); show 4 + _ + 1 + _<=sizeLine; omega),(by show 6<=sizeLine; decide),fun l1 hl1=>?_⟩
  have s5:=Same.new (o:=.lst [V.str (Str.ofString "follows "++D3 nms x++Str.ofString " "++D6 st++Str.ofString " "++D3 nms y),V.str (Str.ofString "keys"),V.str (Str.ofString "cover"),V.str (Str.ofString "parts"),V.str (Str.ofString "tree"),V.str (Str.ofString "cut "++D3 nms x++Str.ofString " "++D3 nms z)]) hl1
  have h5:(upd H4 l1 (.lst [V.str (Str.ofString "follows "++D3 nms x++Str.ofString " "++D6 st++Str.ofString " "++D3 nms y),V.str (Str.ofString "keys"),V.str (Str.ofString "cover"),V.str (Str.ofString "parts"),V.str (Str.ofString "tree"),V.str (Str.ofString "cut "++D3 nms x++Str.ofString " "++D3 nms z)])) l1=some (.lst [V.str (Str.ofString "follows "++D3 nms x++Str.ofString " "++D6 st++Str.ofString " "++D3 nms y),V.str (Str.ofString "keys"),V.str (Str.ofString "cover"),V.str (Str.ofString "parts"),V.str (Str.ofString "tree"),V.str (Str.ofString "cut "++D3 nms x++Str.ofString " "++D3 nms z)]):=A3
  replace s5:=s4.trans s5
  generalize upd H4 l1 (.lst [V.str (Str.ofString "follows "++D3 nms x++Str.ofString " "++D6 st++Str.ofString " "++D3 nms y),V.str (Str.ofString "keys"),V.str (Str.ofString "cover"),V.str (Str.ofString "parts"),V.str (Str.ofString "tree"),V.str (Str.ofString "cut "++D3 nms x++Str.ofString " "++D3 nms z)])=H5 at s5 h5
  refine ⟨_,rfl,_,rfl,_,_,rfl,rfl,(by (try simp only [Str.length_append]); show 5 + _<=sizeLine; omega),_,_,rfl,rfl,(by (try simp only [Str.length_append]); show 5 + _ + 8<=sizeLine; omega),_,rfl,_,_,rfl,rfl,(by (try simp only [Str.length_append]); show 5 + _ + 8 + _<=sizeLine; omega),(by show 2<=sizeLine; decide),fun l2 hl2=>?_⟩
  have s6:=Same.new (o:=.lst [V.str (Str.ofString "part "++D3 nms x++Str.ofString " settle "++D3 nms y),V.str (Str.ofString "keys")]) hl2
  have h6:(upd H5 l2 (.lst [V.str (Str.ofString "part "++D3 nms x++Str.ofString " settle "++D3 nms y),V.str (Str.ofString "keys")])) l2=some (.lst [V.str (Str.ofString "part "++D3 nms x++Str.ofString " settle "++D3 nms y),V.str (Str.ofString "keys")]):=A3
  have h56:=s6 _ _ h5
  replace s6:=s5.trans s6
  generalize upd H5 l2 (.lst [V.str (Str.ofString "part "++D3 nms x++Str.ofString " settle "++D3 nms y),V.str (Str.ofString "keys")])=H6 at s6 h6 h56
  refine ⟨l1,l2,_,_,rfl,rfl,h56,h6,(by show 8<=sizeLine; decide),fun l3 hl3=>?_⟩
  obtain ⟨a,ha,ea⟩:=Yo (st:=st) hx hy hz hxy (c % 8) (Nat.mod_lt _ (by decide))
  exact ⟨_,rfl,c,8,rfl,rfl,(by show 0 < 8; decide),l3,_,_,_,rfl,rfl,SqL.of A3,A6 (j:=c % 8) ea,q a _ ha (s6.trans (Same.new hl3))⟩
end
end Own
namespace L2
open PySem PySem.Spec PyProof.Rows
structure DS (H:Hp) (CD d dn dl np rl:Addr) (nms:List Str) (ks rs:List Rl):Prop where
 desk:DeskAt H CD d dn dl
 hdn:H dn=some (.lst (nms.map V.str))
 hdl:H dl=some (.lst (ks.map fun r=>V.ref r.r))
 hnp:H np=some (.lst (nms.map V.str))
 hrl:H rl=some (.lst (rs.map fun r=>V.ref r.r))
 hK:RulesAt H nms.length ks
 hR:RulesAt H nms.length rs
 e:ks.map Rl.d=rs.map Rl.d
 y0:∀r∈rs,r.y≠0
 l12:rs.length<=12
 ne:rl≠dl
noncomputable def Vf (d rl:Addr) (H H':Hp):Prop:=∀b o,H b=some o->b≠d->b≠rl->H' b=some o
section
variable {H H':Hp} {CD d dn dl np rl:Addr} {nms:List Str} {ks rs:List Rl}
theorem DS.same (h:DS H CD d dn dl np rl nms ks rs) (s:Same H H'):DS H' CD d dn dl np rl nms ks rs:=
 ⟨h.desk.same s,s _ _ h.hdn,s _ _ h.hdl,s _ _ h.hnp,s _ _ h.hrl,h.hK.same s,h.hR.same s,h.e,h.y0,h.l12,h.ne⟩
theorem DS.lk (h:DS H CD d dn dl np rl nms ks rs):ks.length=rs.length:=by
 have:=congrArg List.length h.e
 rw [Θl,Θl] at this
 exact this
theorem U7 {xs:List Rl} {n a:Addr} (N:NM nms) (h1:H n=some (.lst (nms.map V.str))) (h2:H a=some (.lst (xs.map fun r=>V.ref r.r))):n≠a:=fun z=>by
 rw [z,h2] at h1
 have e:(xs.map fun r=>V.ref r.r)=nms.map V.str:=by injection h1 with h1; injection h1
 cases nms with
 | nil=>exact absurd N.l1 (by decide)
 | cons x r=>
  cases xs with
  | nil=>cases e
  | cons y s=>cases (List.cons.inj e).1
theorem Ey {r a:Addr} {st:Bool} {x y:Nat} {xs:List V} (h1:E4 H r st x y) (h2:H a=some (.lst xs)):r≠a:=fun z=>by
 unfold E4 at h1
 rw [z,h2] at h1
 cases h1
theorem DS.d_ne (h:DS H CD d dn dl np rl nms ks rs) {a:Addr} {xs:List V} (h2:H a=some (.lst xs)):a≠d:=fun z=>by
 obtain ⟨dx,hd⟩:=h.desk
 rw [z,hd] at h2
 cases h2
theorem DS.d_rule (h:DS H CD d dn dl np rl nms ks rs) {r:Addr} {st:Bool} {x y:Nat} (h1:E4 H r st x y):r≠d:=fun z=>by
 obtain ⟨dx,hd⟩:=h.desk
 unfold E4 at h1
 rw [z,hd] at h1
 cases h1
end
noncomputable def Zw (CD:Addr):Sp:=fun vs H Q _=>∃(d dn dl np rl:Addr) (nms:List Str) (ks rs:List Rl) (c:Nat),vs=[.ref d,.ref np,.ref rl,vN c]/\DS H CD d dn dl np rl nms ks rs/\NM nms/\c < 2 ^ 32/\
 ∀(dl':Addr) (ks' rs':List Rl) (H':Hp),DS H' CD d dn dl' np rl nms ks' rs'->Vf d rl H H'->Q (.bl true) H'
end L2
namespace Own
open PySem L2
section
variable {P:Program} {w:World} {K:Θf} {mg:Str->Option Value} {base:Heap}
seal PySem.wpAny
noncomputable abbrev Zc:Stmt:=top 93
theorem scLLet:FnScope ["_law_desk","_law_names_here","_law_rules_here","_law_cell","_law_word","_law_left","_law_right","_law_row"] ["_law_desk","_law_names_here","_law_rules_here","_law_cell"] (A7 Zc):=⟨rfl,rfl,rfl,by decide +kernel,rfl,by decide +kernel,by decide +kernel⟩
theorem Abo {f fRU fSE fFU fSY CD CTM:Addr} {fd fdRU fdSE fdFU fdSY:FuncData} (F:Fun K "_law_let" "_law_let" Zc f fd) (GRU:FnOk P w K mg base CX0 1 fRU fdRU ["_law_cell","_law_many"] Cb) (mRU:mg "_law_rule" = some (.ref fRU)) (kRU:Θk K fRU) (bRU:Binds K fdRU ["_law_cell","_law_many"] []) (GSE:FnOk P w K mg base CX0 2 fSE fdSE ["_law_names_here","_law_some"] (T0 K)) (mSE:mg "_law_set" = some (.ref fSE)) (kSE:Θk K fSE) (bSE:Binds K fdSE ["_law_names_here","_law_some"] []) (GFU:FnOk P w K mg base CX0 4 fFU fdFU ["_law_desk","_law_row"] (Rs CD)) (mFU:mg "_law_full" = some (.ref fFU)) (kFU:Θk K fFU) (bFU:Binds K fdFU ["_law_desk","_law_row"] []) (T:DK K CD) (MS:Meth K CD "say" fSY) (GSL:FnOk P w K mg base CX0 3 fSY fdSY ["self","row"] (fun vs H Q _=>Kx CD CTM vs H Q fun _ _ _=>False)) (bSY:Binds K fdSY ["self","row"] []) (zlen:mg "len" = none):FnOk P w K mg base CX0 5 f fd ["_law_desk","_law_names_here","_law_rules_here","_law_cell"] (Zw CD):=by
 refine F.ok scLLet (fun vs H Q E h=>?_) (fun cdv A outer s H vs Q E hr h=>?_)
 ·obtain ⟨d,dn,dl,np,rl,nms,ks,rs,c,rfl,_⟩:=h
  rfl
 ·obtain ⟨d,dn,dl,np,rl,nms,ks,rs,c,rfl,G,NN,hc,q⟩:=h
  have nd:=scLLet.nd
  have hr1:Room 1 _:=hr.mono (by decide)
  have hr2:Room 2 _:=hr.mono (by decide)
  have hr3:Room 3 _:=hr.mono (by decide)
  have hr4:Room 4 _:=hr.mono (by decide)
  have l7:=NN.l7
  have l1:=NN.l1
  have ln:(nms.map V.str).length=nms.length:=Θl ..
  have sz:=sizeLine_eq
  refine ⟨_,(A2 (Gc (A8 GRU hr1 rfl mRU kRU bRU .nil B2 (A0 (pv 3) (A0 (D2 (D9 (K:=K) rfl) (by rfl) zlen PySem.boot_len (A0 (pv 1) A1)) A1))) (T6 rfl (E1 (C5 (i:=4) nd rfl (Or.inl rfl)) (E1 (C5 (i:=5) nd rfl (Or.inl rfl)) (E1 (C5 (i:=6) nd rfl (Or.inl rfl)) N4)))))
   (A2 (D1 (B1 O1 (pv 6) A5 (C3 _)) (A4 (C0 (i:=6) nd rfl (Or.inl rfl) (B0 P9 A5 (B0 E2 (pv 5) (D2 (D9 (K:=K) rfl) (by rfl) zlen PySem.boot_len (A0 (pv 1) A1)))))) C1)
   (A2 (C0 (i:=7) nd rfl (Or.inl rfl) (B0 D7 (B0 D7 (B0 D7 (B0 D7 (B0 D7 B9 (A8 GSE hr2 rfl mSE kSE bSE .nil B2 (A0 (pv 1) (A0 (pv 5) A1)))) B9) (pv 4)) B9) (A8 GSE hr2 rfl mSE kSE bSE .nil B2 (A0 (pv 1) (A0 (pv 6) A1)))))
   (A2 (D1 (B1 O1 (D2 (D9 (K:=K) rfl) (by rfl) zlen PySem.boot_len (A0 (pv 2) A1)) A5 (C3 _)) (A4 (A9 (A8 GFU hr4 rfl mFU kFU bFU .nil B2 (A0 (pv 0) (A0 (pv 7) A1))))) C1)
   (A2 (O5 (I9 PySem.F.plainAttrs_list PySem.F.slot_list_append PySem.F.type_list_append N2 (pv 2) (A0 (F2 (A0 (pv 4) (A0 (pv 5) (A0 (pv 6) A1)))) A1)))
   (A4 (A9 (P3 op_eq (Y6 (pv 0) T.cl MS GSL hr3 bSY .nil B2 (A0 (pv 7) A1)) B9 (C3 _))))))))),?_⟩
  refine ⟨_,rfl,_,rfl,np,_,rfl,.inl (SqL.of G.hnp),?_⟩
  rw [ln]
  refine ⟨c,nms.length,rfl,hc,l1,l7,fun st x y0 r0 H1 hx hy0 s1 hr0 hr1'=>?_⟩
  refine ⟨r0,_,rfl,SqT.of hr1',rfl,_,_,rfl,_,_,rfl,_,_,rfl,rfl,?_⟩
  refine via (G:=?GG1) (fun G=>∀y:Nat,y < 2 ^ nms.length->y≠0->G [some (.ref d),some (.ref np),some (.ref rl),some (vN c),some (.str (D6 st)),some (vN x),some (vN y),none] H1) (fun main=>?use1) ?main1
  case use1=>
   refine ⟨_,rfl,y0,0,rfl,rfl,_,rfl,E8 (fun hc0=>?_) (fun hc0=>?_)⟩
   ·refine ⟨_,rfl,_,rfl,np,_,rfl,.inl (SqL.of (s1 _ _ G.hnp)),?_⟩
    rw [ln]
    have xm:=Nat.mod_lt x (show nms.length > 0 by omega)
    refine ⟨x,nms.length,rfl,rfl,(by show 0 < nms.length; omega),x % nms.length,rfl,rfl,by omega,?_⟩
    show Ends.nx _ _ _
    exact main _ (Nat.pow_lt_pow_right (by decide) xm) (Nat.pos_iff_ne_zero.mp (Nat.two_pow_pos _))
   ·show Ends.nx _ _ _
    exact main y0 hy0 fun z=>hc0 (Zr_ z)
  intro y hy ny
  have G1:=G.same s1
  have lx:=F0 NN hx
  have ly:=F0 NN hy
  have lw:=S6 st
  refine ⟨_,rfl,_,rfl,np,nms,x,rfl,SqL.of G1.hnp,NN,hx,fun H2 s2=>⟨_,_,rfl,rfl,(by (try simp only [Str.length_append]); show 4 + _<=sizeLine; omega),_,_,rfl,rfl,(by (try simp only [Str.length_append]); show 4 + _ + 1<=sizeLine; omega),_,rfl,_,_,rfl,rfl,(by (try simp only [Str.length_append]); show 4 + _ + 1 + _<=sizeLine; omega),_,_,rfl,rfl,(by (try simp only [Str.length_append]); show 4 + _ + 1 + _ + 1<=sizeLine; omega),_,rfl,_,rfl,np,nms,y,rfl,SqL.of (s2 _ _ G1.hnp),NN,hy,fun H3 s3=>⟨_,_,rfl,rfl,(by (try simp only [Str.length_append]); show 4 + _ + 1 + _ + 1 + _<=sizeLine; omega),?_⟩⟩⟩
  replace s3:=s1.trans (s2.trans s3)
  have G3:=G.same s3
  have lr:(rs.map fun (r:Rl)=>V.ref r.r).length=rs.length:=Θl ..
  have lkk:(ks.map fun (r:Rl)=>V.ref r.r).length=ks.length:=Θl ..
  have lk:=G.lk
  have l12:=G.l12
  have er:Str.ofString "let "++D3 nms x++Str.ofString " "++D6 st++Str.ofString " "++D3 nms y=Str.join C8 (M9 nms (.rlet st x y)):=Rh _ _ _
  dsimp (config:={ proj:=false,iota:=false }) only
  rw [er]
  refine ⟨_,rfl,rl,_,rfl,.inl (SqL.of G3.hrl),(rs.map fun (r:Rl)=>V.ref r.r).length,12,rfl,rfl,_,rfl,?_⟩
  rw [lr]
  refine E8 (fun h12=>?_) (fun h12=>?_)
  ·refine ⟨_,rfl,_,rfl,d,dn,dl,nms,_,st,x,y,rfl,G3.desk,G3.hdn,NN,G3.hdl,by rw [lkk,lk]; exact Zj_ h12,⟨hx,hy,ny⟩,fun H4 s4=>?_⟩
   exact q dl ks rs H4 (G3.same s4) fun b o e _ _=>(s3.trans s4) _ _ e
  have lt:rs.length < 12:=by
   have:rs.length≠12:=fun z=>h12 (Zr_ z)
   omega
  refine ⟨_,rfl,.inl ⟨rfl,_,SqL.of G3.hrl⟩,_,rfl,_,rfl,_,rfl,(by show 3<=sizeLine; decide),fun r hr0=>?_⟩
  have s4:=Same.new (o:=.tup [V.str (D6 st),vN x,vN y]) hr0
  have h4:E4 (upd H3 r (.tup [V.str (D6 st),vN x,vN y])) r st x y:=A3
  have G4:=G3.same s4
  replace s4:=s3.trans s4
  generalize upd H3 r (.tup [V.str (D6 st),vN x,vN y])=H4 at s4 h4 G4
  refine ⟨rl,_,_,rfl,rfl,G4.hrl,D0 (by rw [lr]; omega),?_⟩
  have rld:=G4.d_ne G4.hrl
  have h5:(upd H4 rl (.lst ((rs.map fun (r:Rl)=>V.ref r.r)++[V.ref r]))) rl=some (.lst ((rs.map fun (r:Rl)=>V.ref r.r)++[V.ref r])):=A3
  have o5:∀b o,H4 b=some o->b≠rl->(upd H4 rl (.lst ((rs.map fun (r:Rl)=>V.ref r.r)++[V.ref r]))) b=some o:=fun b o e hb=>(C6 hb).trans e
  generalize upd H4 rl (.lst ((rs.map fun (r:Rl)=>V.ref r.r)++[V.ref r]))=H5 at h5 o5
  obtain ⟨dx,hd⟩:=id G4.desk
  have hd5:=o5 _ _ hd rld.symm
  have hdn5:=o5 _ _ G4.hdn (U7 NN G4.hdn G4.hrl)
  have hnp5:=o5 _ _ G4.hnp (U7 NN G4.hnp G4.hrl)
  have hdl5:=o5 _ _ G4.hdl G.ne.symm
  refine ⟨_,rfl,d,dx,_,rfl,hd5,rfl,_,rfl,d,dn,dl,nms,_,st,x,y,rfl,⟨dx,hd5⟩,hdn5,NN,hdl5,by rw [lkk,lk]; exact l12,⟨hx,hy,ny⟩,fun hb=>absurd hb (by rw [lkk,lk]; omega),fun _ r2 rl2 H6 B6 n6 hr6 hD6 h6=>?_⟩
  have dd:∀{a:Addr} {ys:List V},H5 a=some (.lst ys)->a≠d:=fun {a ys} h z=>by rw [z,hd5] at h; cases h
  have old:∀{k:Rl},E4 H4 k.r k.st k.x k.y->E4 H6 k.r k.st k.x k.y:=fun {k} h=>B6 _ _ (o5 _ _ h (Ey h G4.hrl)) (G4.d_rule h)
  have rl6:=B6 _ _ h5 rld
  refine ⟨rfl,?_⟩
  rw [Zr_ rfl]
  refine q rl2 (ks++[⟨r2,st,x,y⟩]) (rs++[⟨r,st,x,y⟩]) H6 ⟨hD6,B6 _ _ hdn5 (dd hdn5),by rw [h6,Zw_]; rfl,B6 _ _ hnp5 (dd hnp5),by rw [rl6,Zw_]; rfl,fun k hk=>?_,fun k hk=>?_,by rw [Zw_,Zw_,G.e]; rfl,fun k hk=>?_,by rw [Zv_]; show _ + 1<=12; omega,fun z=>?_⟩ fun b o e hb1 hb2=>B6 _ _ (o5 _ _ (s4 _ _ e) hb2) hb1
  ·rcases Θa hk with hk | hk
   ·exact ⟨old (G4.hK k hk).1,(G4.hK k hk).2⟩
   ·rw [Θs hk]; exact ⟨hr6,hx,hy⟩
  ·rcases Θa hk with hk | hk
   ·exact ⟨old (G4.hR k hk).1,(G4.hR k hk).2⟩
   ·rw [Θs hk]; exact ⟨old (k:=⟨r,st,x,y⟩) h4,hx,hy⟩
  ·rcases Θa hk with hk | hk
   ·exact G.y0 k hk
   ·rw [Θs hk]; exact ny
  ·rw [<-z,h5] at n6
   cases n6
end
end Own
namespace L2
open PySem PySem.Spec PyProof.Rows
noncomputable def Zt (K:Θf) (CD:Addr):Sp:=fun vs H Q _=>∃(d dn dl np rl:Addr) (nms:List Str) (ks rs:List Rl) (c:Nat),vs=[.ref d,.ref np,.ref rl,vN c]/\DS H CD d dn dl np rl nms ks rs/\NM nms/\NW nms/\c < 2 ^ 32/\
 ∀(dl':Addr) (ks' rs':List Rl) (H':Hp),DS H' CD d dn dl' np rl nms ks' rs'->Vf d rl H H'->Q (.bl true) H'
theorem Yq (k:Nat) (nms:List Str):Str.ofString "drop "++Q3 k=Str.join C8 (M9 nms (.rdrop k)):=by
 rw [show Str.ofString "drop " = Hr++C8 from rfl]
 rfl
theorem Lf (nms:List Str):Aff nms [Str.ofString "tree",Str.ofString "cover"]:=fun t ht=>by
 simp only [List.mem_cons,List.not_mem_nil,or_false] at ht
 rcases ht with rfl | rfl
 ·exact ⟨.tree,trivial,rfl⟩
 ·exact ⟨.cover,trivial,rfl⟩
theorem Lg {α:Type} {xs:List α} {k:Nat} (h:k < xs.length):∃A v B,xs=A++v :: B/\A.length=k:=
 ⟨xs.take k,xs[k],xs.drop (k + 1),by rw [List.getElem_cons_drop,List.take_append_drop],by rw [ZB]; omega⟩
theorem Lq {α β:Type} (f:α->β) (v:α) (B:List α):∀A:List α,((A++v :: B).map f).eraseIdx A.length=(A++B).map f
 | []=>rfl
 | a :: A=>by
  show f a :: ((A++v :: B).map f).eraseIdx A.length=f a :: (A++B).map f
  rw [Lq f v B A]
theorem Adn {α β:Type} (f:α->β) (v:α) (B A:List α):((A++v :: B).map f)[A.length]? = some (f v):=by
 rw [Θg,ZD (Zd_ _),Nat.sub_self]
 rfl
theorem Pz {α β:Type} {f:α->β} {A A' B B':List α} {v v':α} (l:A'.length=A.length) (e:(A'++v' :: B').map f=(A++v :: B).map f):(A'++B').map f=(A++B).map f/\f v' = f v:=by
 rw [Zw_,Zw_,List.map_cons,List.map_cons] at e
 obtain ⟨e1,e2⟩:=List.append_inj e (by rw [Θl,Θl]; exact l)
 rw [Zw_,Zw_,e1,(List.cons.inj e2).2]
 exact ⟨rfl,(List.cons.inj e2).1⟩
theorem Jp {α:Type} {A B:List α} {v k:α} (h:k∈A++B):k∈A++v :: B:=by
 rcases Θa h with z | z
 ·exact Zt_ _ z
 ·exact Zh_ _ (Θd _ z)
noncomputable def Ix (K:Θf):Sp:=fun vs H Q _=>∃(sc:Addr) (ns:List Int) (mo:Nat),vs=[.ref sc,vN mo]/\1<=mo/\mo<=7/\SqL K H sc (ns.map V.int)/\
 ∀(t nl rl:Addr) (nms:List Str) (rs:List Rl) (H':Hp),H rl=none->NM nms->NW nms->Same H H'->RulesAt H' nms.length rs->(∀r∈rs,r.y≠0)->rs.length<=12->H' t=some (.tup [.ref nl,.ref rl])->H' nl=some (.lst (nms.map V.str))->H' rl=some (.lst (rs.map fun r=>V.ref r.r))->Q (.ref t) H'
end L2
namespace Own
open PySem L2
section
variable {P:Program} {w:World} {K:Θf} {mg:Str->Option Value} {base:Heap}
seal PySem.wpAny
noncomputable abbrev Yz:Stmt:=top 96
theorem scDone:FnScope ["_law_desk","_law_names_here","_law_rules_here","_law_cell","_law_at","_law_rule_here","_law_row"] ["_law_desk","_law_names_here","_law_rules_here","_law_cell"] (A7 Yz):=⟨rfl,rfl,rfl,by decide +kernel,rfl,by decide +kernel,by decide +kernel⟩
theorem Abl {f fSE fLE fAW fSY CD CTM:Addr} {fd fdSE fdLE fdAW fdSY:FuncData} (F:Fun K "_law_done" "_law_done" Yz f fd) (GSE:FnOk P w K mg base CX0 2 fSE fdSE ["_law_names_here","_law_some"] (T0 K)) (mSE:mg "_law_set" = some (.ref fSE)) (kSE:Θk K fSE) (bSE:Binds K fdSE ["_law_names_here","_law_some"] []) (GLE:FnOk P w K mg base CX0 5 fLE fdLE ["_law_desk","_law_names_here","_law_rules_here","_law_cell"] (Zw CD)) (mLE:mg "_law_let" = some (.ref fLE)) (kLE:Θk K fLE) (bLE:Binds K fdLE ["_law_desk","_law_names_here","_law_rules_here","_law_cell"] []) (GAW:FnOk P w K mg base CX0 139 fAW fdAW ["_law_desk","_law_names_here","_law_rules_here","_law_rows"] (Ps K CD)) (mAW:mg "_law_as_anew" = some (.ref fAW)) (kAW:Θk K fAW) (bAW:Binds K fdAW ["_law_desk","_law_names_here","_law_rules_here","_law_rows"] []) (T:DK K CD) (MS:Meth K CD "say" fSY) (GSL:FnOk P w K mg base CX0 3 fSY fdSY ["self","row"] (fun vs H Q _=>Kx CD CTM vs H Q fun _ _ _=>False)) (bSY:Binds K fdSY ["self","row"] []) (GSD:FnOk P w K mg base CX0 3 fSY fdSY ["self","row"] (Zy CD)) (zlen:mg "len" = none) (zstr:mg "str" = none):FnOk P w K mg base CX0 140 f fd ["_law_desk","_law_names_here","_law_rules_here","_law_cell"] (Zt K CD):=by
 refine F.ok scDone (fun vs H Q E h=>?_) (fun cdv A outer s H vs Q E hr h=>?_)
 ·obtain ⟨d,dn,dl,np,rl,nms,ks,rs,c,rfl,_⟩:=h
  rfl
 ·obtain ⟨d,dn,dl,np,rl,nms,ks,rs,c,rfl,G,NN,NNW,hc,q⟩:=h
  have nd:=scDone.nd
  have hr2:Room 2 _:=hr.mono (by decide)
  have hr3:Room 3 _:=hr.mono (by decide)
  have hr5:Room 5 _:=hr.mono (by decide)
  have hrW:Room 139 _:=hr.mono (by decide)
  have sz:=sizeLine_eq
  have lr:(rs.map fun (r:Rl)=>V.ref r.r).length=rs.length:=Θl ..
  have l12:=G.l12
  have c4:c / 4 < 2 ^ 32:=Nat.lt_of_le_of_lt (Nat.div_le_self _ _) hc
  refine ⟨_,(A2 (D1 (B1 Fx (B0 E2 (pv 3) A5) A5 (C3 _)) (A4 (A9 (A8 GLE hr5 rfl mLE kLE bLE .nil B2 (A0 (pv 0) (A0 (pv 1) (A0 (pv 2) (A0 (B0 F4 (pv 3) A5) A1))))))) C1)
   (A2 (D1 (B1 O1 (D2 (D9 (K:=K) rfl) (by rfl) zlen PySem.boot_len (A0 (pv 2) A1)) A5 (C3 _)) (A4 (A9 Q7)) C1)
   (A2 (C0 (i:=4) nd rfl (Or.inl rfl) (B0 E2 (B0 F4 (pv 3) A5) (D2 (D9 (K:=K) rfl) (by rfl) zlen PySem.boot_len (A0 (pv 2) A1))))
   (A2 (D1 (PW.pt (Pd (B1 O1 (B0 E2 (pv 3) A5) A5 (C3 _)) (Ka (R9 (K8 (A8 GAW hrW rfl mAW kAW bAW .nil B2 (A0 (pv 0) (A0 (pv 1) (A0 (pv 2) (A0 (E5 (A0 B9 (A0 B9 A1))) A1)))))))))) (A4 (A9 Q7)) C1)
   (A2 (C0 (i:=5) nd rfl (Or.inl rfl) (I9 PySem.F.plainAttrs_list PySem.F.slot_list_pop PySem.F.type_list_pop Xh (pv 2) (A0 (pv 4) A1)))
   (A2 (D1 (B1 op_ne (Y6 (pv 0) T.cl MS GSD hr3 bSY .nil B2 (A0 (B0 D7 B9 (O8 V1 (by rfl) zstr PyProof.Rows.boot_str (A0 (pv 4) A1))) A1)) B9 (C3 _)) (A4 (A9 Q7)) C1)
   (A2 (D1 (B1 O1 (B0 E2 (pv 3) A5) A5 (C3 _)) (A4 (A9 Q7)) C1)
   (A2 (O5 (I9 PySem.F.plainAttrs_list PySem.F.slot_list_append PySem.F.type_list_append N2 (pv 2) (A0 (pv 5) A1)))
   (A2 (C0 (i:=6) nd rfl (Or.inl rfl) (B0 D7 (B0 D7 (B0 D7 (B0 D7 (B0 D7 B9 (A8 GSE hr2 rfl mSE kSE bSE .nil B2 (A0 (pv 1) (A0 (C4 (C2 (K:=K) rfl) (pv 5) A5 (fun _ _=>rfl)) A1)))) B9) (C4 (C2 (K:=K) rfl) (pv 5) A5 (fun _ _=>rfl))) B9) (A8 GSE hr2 rfl mSE kSE bSE .nil B2 (A0 (pv 1) (A0 (C4 (C2 (K:=K) rfl) (pv 5) A5 (fun _ _=>rfl)) A1)))))
   (A4 (A9 (Yh (P3 op_eq (Y6 (pv 0) T.cl MS GSL hr3 bSY .nil B2 (A0 (pv 6) A1)) B9 (C3 _)) (Pb (A8 GAW hrW rfl mAW kAW bAW .nil B2 (A0 (pv 0) (A0 (pv 1) (A0 (pv 2) (A0 (E5 (A0 B9 (A0 B9 A1))) A1)))))))))))))))))),?_⟩
  refine ⟨_,rfl,c,5,rfl,rfl,(by show 0 < 5; decide),c % 5,3,rfl,rfl,_,rfl,E8 (fun h3=>?_) (fun h3=>?_)⟩
  ·exact ⟨_,rfl,_,rfl,_,rfl,_,rfl,c,4,rfl,rfl,(by show 0 < 4/\4 < 1073741824; decide),d,dn,dl,np,rl,nms,ks,rs,c / 4,rfl,G,NN,c4,fun dl' ks' rs' H' G' B'=>q dl' ks' rs' H' G' B'⟩
  refine ⟨_,rfl,rl,_,rfl,.inl (SqL.of G.hrl),(rs.map fun (r:Rl)=>V.ref r.r).length,0,rfl,rfl,_,rfl,?_⟩
  rw [lr]
  refine E8 (fun h0=>q dl ks rs H G fun b o e _ _=>e) (fun h0=>?_)
  have pos:0 < rs.length:=Nat.pos_of_ne_zero fun z=>h0 (Zr_ z)
  refine ⟨_,rfl,c,5,rfl,rfl,(by show 0 < 5/\5 < 1073741824; decide),_,rfl,rl,_,rfl,.inl (SqL.of G.hrl),?_⟩
  rw [lr]
  refine ⟨c / 5,rs.length,rfl,rfl,pos,?_⟩
  have hk:=Nat.mod_lt (c / 5) pos
  dsimp (config:={ proj:=false,iota:=false }) only
  generalize c / 5 % rs.length=k at hk
  refine via (G:=?GG1) (fun G0=>∀H1:Hp,Same H H1->G0 [some (.ref d),some (.ref np),some (.ref rl),some (vN c),some (vN k),none,none] H1) (fun main=>?use1) ?main1
  case use1=>
   refine ⟨_,rfl,c,5,rfl,rfl,(by show 0 < 5; decide),c % 5,4,rfl,rfl,_,rfl,E8 (fun h4=>?_) (fun h4=>?_)⟩
   ·refine ⟨_,rfl,_,rfl,_,rfl,(by show 2<=sizeLine; decide),fun l hl=>?_⟩
    have s2:=Same.new (o:=.lst [V.str (Str.ofString "tree"),V.str (Str.ofString "cover")]) hl
    have G2:=G.same s2
    refine ⟨d,dn,dl,np,rl,l,nms,ks,rs,[Str.ofString "tree",Str.ofString "cover"],rfl,G2.desk,G2.hdn,SqL.of G2.hdl,G2.hK,G2.e,G2.hnp,NN,NNW,SqL.of G2.hrl,G2.hR,G2.y0,G2.l12,SqL.of A3,by decide,Lf nms,fun H1 s1=>⟨_,rfl,E7 ?_⟩⟩
    show Ends.nx _ _ _
    exact main H1 (s2.trans s1)
   ·refine E7 ?_
    show Ends.nx _ _ _
    exact main H (Same.refl _)
  intro H1 s1
  have G1:=G.same s1
  obtain ⟨LA,v,LB,ers,elA⟩:=Lg hk
  obtain ⟨KA,u,KB,eks,elK⟩:=Lg (xs:=ks) (k:=k) (by rw [G.lk]; exact hk)
  subst ers eks elA
  obtain ⟨esame,euv⟩:=Pz elK G.e
  have lenL:LA.length + LB.length + 1<=12:=by
   rw [Zv_,ZA] at l12
   omega
  have lenK:KA.length + KB.length=LA.length + LB.length:=by
   have:=congrArg List.length esame
   rw [Θl,Θl,Zv_,Zv_] at this
   exact this
  refine ⟨_,rfl,.inl ⟨rfl,_,SqL.of G1.hrl⟩,_,rfl,rl,_,((LA.length:Nat):Int),LA.length,V.ref v.r,rfl,rfl,G1.hrl,by omega,by omega,?_,Adn _ _ _ _,?_⟩
  ·rw [seqIndex_of (by omega) (by rw [lr,Zv_,ZA]; omega)]; rfl
  rw [Lq]
  have rld:=G1.d_ne G1.hrl
  have h2:(upd H1 rl (.lst ((LA++LB).map fun (r:Rl)=>V.ref r.r))) rl=some (.lst ((LA++LB).map fun (r:Rl)=>V.ref r.r)):=A3
  have o2:∀b o,H1 b=some o->b≠rl->(upd H1 rl (.lst ((LA++LB).map fun (r:Rl)=>V.ref r.r))) b=some o:=fun b o e hb=>(C6 hb).trans e
  generalize upd H1 rl (.lst ((LA++LB).map fun (r:Rl)=>V.ref r.r))=H2 at h2 o2
  obtain ⟨dx,hd⟩:=id G1.desk
  have hd2:=o2 _ _ hd rld.symm
  have hdn2:=o2 _ _ G1.hdn (U7 NN G1.hdn G1.hrl)
  have hnp2:=o2 _ _ G1.hnp (U7 NN G1.hnp G1.hrl)
  have hdl2:=o2 _ _ G1.hdl G.ne.symm
  have kl:(KA.map fun (r:Rl)=>V.ref r.r).length=LA.length:=by rw [Θl]; exact elK
  refine ⟨_,rfl,d,dx,_,rfl,hd2,rfl,_,rfl,_,rfl,(by show Nat.log2 LA.length < 1920; exact Nat.lt_of_le_of_lt (Nat.log2_le_self _) (by omega)),_,_,rfl,rfl,?_,d,dn,dl,nms,KA.map fun (r:Rl)=>V.ref r.r,KB.map fun (r:Rl)=>V.ref r.r,V.ref u.r,?_,⟨dx,hd2⟩,hdn2,NN,?_,?_,fun rl2 H3 B3 n3 hD3 h3=>?_⟩
  ·have:=Qx (k:=LA.length) (by omega)
   show 5 + (Q3 LA.length).length<=sizeLine
   omega
  ·rw [<-Yq,kl]; rfl
  ·rw [hdl2,Zw_,List.map_cons]
  ·rw [Zv_,ZA,Θl,Θl]; omega
  have dd:∀{a:Addr} {ys:List V},H2 a=some (.lst ys)->a≠d:=fun {a ys} h z=>by rw [z,hd2] at h; cases h
  have old:∀{k:Rl},E4 H1 k.r k.st k.x k.y->E4 H3 k.r k.st k.x k.y:=fun {k} h=>B3 _ _ (o2 _ _ h (Ey h G1.hrl)) (G1.d_rule h)
  have G3:DS H3 CD d dn rl2 np rl nms (KA++KB) (LA++LB):=by
   refine ⟨hD3,B3 _ _ hdn2 (dd hdn2),by rw [h3,Zw_],B3 _ _ hnp2 (dd hnp2),B3 _ _ h2 rld,fun k hk=>?_,fun k hk=>?_,esame,fun k hk=>?_,by rw [Zv_]; omega,fun z=>?_⟩
   ·have hm:k∈KA++u :: KB:=Jp hk
    exact ⟨old (G1.hK k hm).1,(G1.hK k hm).2⟩
   ·have hm:k∈LA++v :: LB:=Jp hk
    exact ⟨old (G1.hR k hm).1,(G1.hR k hm).2⟩
   ·have hm:k∈LA++v :: LB:=Jp hk
    exact G1.y0 k hm
   ·rw [<-z,h2] at n3
    cases n3
  have F3:Vf d rl H H3:=fun b o e hb1 hb2=>B3 _ _ (o2 _ _ (s1 _ _ e) hb2) hb1
  have vm:v∈LA++v :: LB:=Zh_ _ Θc
  have hv3:=old (G1.hR v vm).1
  obtain ⟨hx,hy⟩:=(G1.hR v vm).2
  have ny:=G1.y0 v vm
  refine ⟨rfl,_,rfl,?_⟩
  rw [Zr_ rfl]
  refine E7 ?_
  refine ⟨_,rfl,c,5,rfl,rfl,(by show 0 < 5; decide),c % 5,3,rfl,rfl,_,rfl,E8 (fun _=>q rl2 _ _ H3 G3 F3) (fun _=>?_)⟩
  refine ⟨_,rfl,.inl ⟨rfl,_,SqL.of G3.hrl⟩,_,rfl,rl,_,_,rfl,rfl,G3.hrl,D0 (by rw [Θl,Zv_]; omega),?_⟩
  have h4:(upd H3 rl (.lst (((LA++LB).map fun (r:Rl)=>V.ref r.r)++[V.ref v.r]))) rl=some (.lst (((LA++LB).map fun (r:Rl)=>V.ref r.r)++[V.ref v.r])):=A3
  have o4:∀b o,H3 b=some o->b≠rl->(upd H3 rl (.lst (((LA++LB).map fun (r:Rl)=>V.ref r.r)++[V.ref v.r]))) b=some o:=fun b o e hb=>(C6 hb).trans e
  generalize upd H3 rl (.lst (((LA++LB).map fun (r:Rl)=>V.ref r.r)++[V.ref v.r]))=H4 at h4 o4
  have rld3:=G3.d_ne G3.hrl
  obtain ⟨dx3,hd3⟩:=id G3.desk
  have hd4:=o4 _ _ hd3 rld3.symm
  have hdn4:=o4 _ _ G3.hdn (U7 NN G3.hdn G3.hrl)
  have hnp4:=o4 _ _ G3.hnp (U7 NN G3.hnp G3.hrl)
  have hdl4:=o4 _ _ G3.hdl G3.ne.symm
  have hv4:E4 H4 v.r v.st v.x v.y:=o4 _ _ hv3 (Ey hv3 G3.hrl)
  have lx:=F0 NN hx
  have ly:=F0 NN hy
  have lw:=S6 v.st
  refine ⟨_,rfl,_,rfl,v.r,_,_,_,rfl,rfl,SqT.of hv4,A6 (j:=1) (v:=vN v.x) rfl,np,nms,v.x,rfl,SqL.of hnp4,NN,hx,fun H5 s5=>⟨_,_,rfl,rfl,(by (try simp only [Str.length_append]); show 4 + _<=sizeLine; omega),_,_,rfl,rfl,(by (try simp only [Str.length_append]); show 4 + _ + 1<=sizeLine; omega),_,rfl,v.r,_,_,_,rfl,rfl,SqT.of (s5 _ _ hv4),A6 (j:=0) (v:=V.str (D6 v.st)) rfl,_,_,rfl,rfl,(by (try simp only [Str.length_append]); show 4 + _ + 1 + _<=sizeLine; omega),_,_,rfl,rfl,(by (try simp only [Str.length_append]); show 4 + _ + 1 + _ + 1<=sizeLine; omega),_,rfl,_,rfl,v.r,_,_,_,rfl,rfl,SqT.of (s5 _ _ hv4),A6 (j:=2) (v:=vN v.y) rfl,np,nms,v.y,rfl,SqL.of (s5 _ _ hnp4),NN,hy,fun H6 s6=>⟨_,_,rfl,rfl,(by (try simp only [Str.length_append]); show 4 + _ + 1 + _ + 1 + _<=sizeLine; omega),?_⟩⟩⟩
  replace s6:=s5.trans s6
  have er:Str.ofString "let "++D3 nms v.x++Str.ofString " "++D6 v.st++Str.ofString " "++D3 nms v.y=Str.join C8 (M9 nms (.rlet v.st v.x v.y)):=Rh _ _ _
  dsimp (config:={ proj:=false,iota:=false }) only
  rw [er]
  have lkk:((KA++KB).map fun (r:Rl)=>V.ref r.r).length=LA.length + LB.length:=by rw [Θl,Zv_]; exact lenK
  have hd6:=s6 _ _ hd4
  refine ⟨_,rfl,d,dx3,_,rfl,hd6,rfl,_,rfl,d,dn,rl2,nms,_,v.st,v.x,v.y,rfl,⟨dx3,hd6⟩,s6 _ _ hdn4,NN,s6 _ _ hdl4,by rw [lkk]; omega,⟨hx,hy,ny⟩,fun hb=>absurd hb (by rw [lkk]; omega),fun _ r2 rl3 H7 B7 n7 hr7 hD7 h7=>?_⟩
  have dd6:∀{a:Addr} {ys:List V},H6 a=some (.lst ys)->a≠d:=fun {a ys} h z=>by rw [z,hd6] at h; cases h
  have old7:∀{k:Rl},E4 H3 k.r k.st k.x k.y->E4 H7 k.r k.st k.x k.y:=fun {k} h=>B7 _ _ (s6 _ _ (o4 _ _ h (Ey h G3.hrl))) (G3.d_rule h)
  have rl7:=B7 _ _ (s6 _ _ h4) rld3
  have G7:DS H7 CD d dn rl3 np rl nms ((KA++KB)++[⟨r2,v.st,v.x,v.y⟩]) ((LA++LB)++[v]):=by
   refine ⟨hD7,B7 _ _ (s6 _ _ hdn4) (dd6 (s6 _ _ hdn4)),by rw [h7]; simp only [List.map_append,List.map_cons,List.map_nil],B7 _ _ (s6 _ _ hnp4) (dd6 (s6 _ _ hnp4)),by rw [rl7]; simp only [List.map_append,List.map_cons,List.map_nil],fun k hk=>?_,fun k hk=>?_,by simp only [List.map_append] at esame ⊢; rw [esame]; rfl,fun k hk=>?_,by rw [List.length_append,List.length_append]; show _ + 1<=12; omega,fun z=>?_⟩
   ·rcases Θa hk with hk | hk
    ·exact ⟨old7 (G3.hK k hk).1,(G3.hK k hk).2⟩
    ·rw [Θs hk]; exact ⟨hr7,hx,hy⟩
   ·rcases Θa hk with hk | hk
    ·exact ⟨old7 (G3.hR k hk).1,(G3.hR k hk).2⟩
    ·rw [Θs hk]; exact ⟨old7 hv3,hx,hy⟩
   ·rcases Θa hk with hk | hk
    ·exact G3.y0 k hk
    ·rw [Θs hk]; exact ny
   ·rw [<-z,s6 _ _ h4] at n7
    cases n7
  have F7:Vf d rl H H7:=fun b o e hb1 hb2=>B7 _ _ (s6 _ _ (o4 _ _ (F3 b o e hb1 hb2) hb2)) hb1
  refine ⟨rfl,_,rfl,?_⟩
  rw [if_pos (Zr_ rfl)]
  refine ⟨_,rfl,_,rfl,_,rfl,(by show 2<=sizeLine; decide),fun l hl=>?_⟩
  have s8:=Same.new (o:=.lst [V.str (Str.ofString "tree"),V.str (Str.ofString "cover")]) hl
  have G8:=G7.same s8
  exact ⟨d,dn,rl3,np,rl,l,nms,_,_,[Str.ofString "tree",Str.ofString "cover"],rfl,G8.desk,G8.hdn,SqL.of G8.hdl,G8.hK,G8.e,G8.hnp,NN,NNW,SqL.of G8.hrl,G8.hR,G8.y0,G8.l12,SqL.of A3,by decide,Lf nms,fun H9 s9=>q rl3 _ _ H9 (G8.same s9) fun b o e hb1 hb2=>s9 _ _ (s8 _ _ (F7 b o e hb1 hb2))⟩
end
end Own
namespace Own
open PySem L2
section
variable {P:Program} {w:World} {K:Θf} {mg:Str->Option Value} {base:Heap}
seal PySem.wpAny
noncomputable abbrev Kf:Stmt:=top 83
theorem scCellAt:FnScope ["_law_script","_law_k","_law_number"] ["_law_script","_law_k"] (A7 Kf):=⟨rfl,rfl,rfl,by decide +kernel,rfl,by decide +kernel,by decide +kernel⟩
theorem Ty {f:Addr} {fd:FuncData} (F:Fun K "_law_cell_at" "_law_cell_at" Kf f fd) (zlen:mg "len" = none):FnOk P w K mg base CX0 1 f fd ["_law_script","_law_k"] (Rq K):=by
 refine F.ok scCellAt (fun vs H Q E h=>?_) (fun cdv A outer s H vs Q E hr h=>?_)
 ·obtain ⟨sc,ns,k,rfl,_⟩:=h
  rfl
 ·obtain ⟨sc,ns,k,rfl,hS,hk,q⟩:=h
  have nd:=scCellAt.nd
  have kk:k * k<=1000 * 1000:=Nat.mul_le_mul hk hk
  have p0:(0:Int) < 2147483629:=by decide
  refine ⟨_,(A2 (D1 (B1 Fx (pv 1) (D2 (D9 (K:=K) rfl) (by rfl) zlen PySem.boot_len (A0 (pv 0) A1)) (C3 _)) (A4 (A9 (B0 op_mod (C4 (C9 (K:=K) rfl) (pv 0) (pv 1) (fun _ _=>rfl)) A5))) C1)
   (A2 (C0 (i:=2) nd rfl (Or.inl rfl) (B0 F9 (B0 V9 (B0 V9 (pv 1) (pv 1)) A5) A5))
   (A2 (D1 (B1 T5 (D2 (D9 (K:=K) rfl) (by rfl) zlen PySem.boot_len (A0 (pv 0) A1)) A5 (C3 _)) (A4 (C0 (i:=2) nd rfl (Or.inl rfl) (B0 F9 (pv 2) (B0 V9 (B0 op_mod (C4 (C9 (K:=K) rfl) (pv 0) (B0 E2 (pv 1) (D2 (D9 (K:=K) rfl) (by rfl) zlen PySem.boot_len (A0 (pv 0) A1))) (fun _ _=>rfl)) A5) A5)))) C1)
   (A4 (A9 (B0 E2 (B0 V9 (pv 2) (pv 2)) A5)))))),?_⟩
  have len1:(ns.map V.int).length=ns.length:=Θl ..
  refine ⟨_,rfl,_,rfl,sc,_,rfl,.inl hS,k,_,rfl,rfl,_,rfl,?_⟩
  refine E8 (fun hc=>?_) (fun hc=>?_)
  ·have hlt:k < ns.length:=by
    have:=Zj_ hc
    rwa [len1] at this
   refine ⟨_,rfl,_,rfl,sc,_,_,_,rfl,rfl,hS,A6 (j:=k) (v:=V.int ns[k]) (by simp [hlt]),_,_,rfl,rfl,p0,?_⟩
   obtain ⟨c,e,lt⟩:=Xk (n:=2147483629) (Xg ns[k] p0) (Xf ns[k] p0)
   show Q (V.int (ns[k] % 2147483629)) H
   have ec:=Lj hlt e
   have en:Bb ns k=c:=by unfold Bb; rw [if_pos hlt]; exact ec
   rw [e]
   rw [en] at q
   exact q
  ·have hge:¬k < ns.length:=fun z=>hc (Zr_ (by rw [len1]; exact z))
   refine ⟨_,rfl,_,rfl,k,k,rfl,rfl,by omega,k * k,48271,rfl,rfl,by omega,k * k * 48271,11,rfl,rfl,?_⟩
   refine ⟨_,rfl,sc,_,rfl,.inl hS,_,0,rfl,rfl,_,rfl,?_⟩
   refine E8 (fun hc2=>?_) (fun hc2=>?_)
   ·have hpos:0 < ns.length:=by
     have:=Zj_ hc2
     rwa [len1] at this
    have hj:k % (ns.map V.int).length < ns.length:=by rw [len1]; exact Nat.mod_lt _ hpos
    obtain ⟨c,e,lt⟩:=Xk (n:=2147483629) (Xg ns[k % (ns.map V.int).length] p0) (Xf ns[k % (ns.map V.int).length] p0)
    refine ⟨_,rfl,_,rfl,_,rfl,_,rfl,sc,_,rfl,.inl hS,k,(ns.map V.int).length,rfl,rfl,by rw [len1]; exact hpos,sc,_,_,_,rfl,rfl,hS,A6 (j:=k % (ns.map V.int).length) (v:=V.int ns[k % (ns.map V.int).length]) (by rw [Θg,Θh hj]; rfl),_,_,rfl,rfl,p0,c,69621,congrArg V.int e,rfl,by omega,k * k * 48271 + 11,c * 69621,rfl,rfl,?_⟩
    refine ⟨_,rfl,_,rfl,k * k * 48271 + 11 + c * 69621,k * k * 48271 + 11 + c * 69621,rfl,rfl,by omega,_,2147483629,rfl,rfl,(by show 0 < 2147483629; decide),?_⟩
    have en:Bb ns k=(k * k * 48271 + 11 + c * 69621) * (k * k * 48271 + 11 + c * 69621) % 2147483629:=by
     unfold Bb
     rw [if_neg hge,if_pos hpos]
     have ec:Fh ns (k % ns.length)=c:=by
      have hj':=hj
      have e':=e
      simp only [len1] at hj' e'
      exact Lj hj' e'
     rw [ec]
    rw [en] at q
    exact q
   ·refine ⟨_,rfl,_,rfl,k * k * 48271 + 11,k * k * 48271 + 11,rfl,rfl,by omega,_,2147483629,rfl,rfl,(by show 0 < 2147483629; decide),?_⟩
    have hz:¬0 < ns.length:=fun z=>hc2 (Zr_ (by rw [len1]; exact z))
    have en:Bb ns k=(k * k * 48271 + 11) * (k * k * 48271 + 11) % 2147483629:=by
     unfold Bb
     rw [if_neg hge,if_neg hz]
    rw [en] at q
    exact q
noncomputable abbrev Gg:Stmt:=top 84
theorem scNames:FnScope ["_law_cell","_law_count","_law_letters","_law_names_here","_law_text_here","_law_k","_law_size","_law_at","_law_signs"] ["_law_cell","_law_count"] (A7 Gg):=⟨rfl,rfl,rfl,by decide +kernel,rfl,by decide +kernel,by decide +kernel⟩
theorem Xy {f:Addr} {fd:FuncData} (F:Fun K "_law_names" "_law_names" Gg f fd) (zrange:mg "range" = none):FnOk P w K mg base CX0 1 f fd ["_law_cell","_law_count"] Iv:=by
 refine F.ok scNames (fun vs H Q E h=>?_) (fun cdv A outer s H vs Q E hr h=>?_)
 ·obtain ⟨c,n,rfl,_⟩:=h
  rfl
 ·obtain ⟨c,n,rfl,n1,n7,q⟩:=h
  have nd:=scNames.nd
  refine ⟨_,(A2 (C0 (i:=2) nd rfl (Or.inr rfl) B9)
   (A2 (C0 (i:=3) nd rfl (Or.inl rfl) (E5 A1))
   (A2 (D1 (B1 O1 (B0 E2 (pv 0) A5) A5 (C3 _)) (A2 (C0 (i:=4) nd rfl (Or.inl rfl) (I9 PySem.F.plainAttrs_str PySem.F.slot_str_join PySem.F.type_str_join N3 B9 (A0 (K0 (xs:=["_law_j"]) (cs ["_law_cell","_law_count","_law_letters","_law_names_here","_law_text_here","_law_k","_law_size","_law_at","_law_signs"] (A7 Gg) rfl rfl (by decide +kernel)) rfl (N5 rfl zrange (A0 A5 A1)) (fun _ _ _=>C5 (i:=0) (show (["_law_j","_law_cell","_law_count","_law_letters","_law_names_here","_law_text_here","_law_k","_law_size","_law_at","_law_signs"]:List Str).Nodup by decide +kernel) rfl (Or.inl rfl)) (fun _ _ _=>K5) (fun _ _ _=>(C4 Oc (pv 3) (B0 E2 (B0 F9 (B0 F4 (pv 1) A5) (B0 V9 A5 (pv 0))) A5) (fun _ _=>rfl)))) A1)))
   (A2 (K7 PassesOwn.never rfl (N5 rfl zrange (A0 (pv 1) A1)) (C5 (i:=5) nd rfl (Or.inl rfl)) (A4 (O5 (I9 PySem.F.plainAttrs_list PySem.F.slot_list_append PySem.F.type_list_append N2 (pv 3) (A0 (J3 Ae2 (pv 4) (K9 (B0 E2 (pv 5) A5)) (K9 (B0 F9 (B0 F9 (B0 E2 (pv 5) A5) A5) (B0 F4 (pv 5) A5)))) A1)))))
   (A4 (A9 (pv 3))))) C1)
   (A2 (C0 (i:=6) nd rfl (Or.inl rfl) (C4 (C9 (K:=K) rfl) (E5 (J0 A5 (J0 A5 (J0 A5 (J0 A5 (J0 A5 (J0 A5 A1))))))) (B0 E2 (B0 F4 (pv 0) A5) A5) (fun _ _=>rfl)))
   (A2 (C0 (i:=7) nd rfl (Or.inl rfl) (B0 E2 (B0 F4 (pv 0) A5) (pv 6)))
   (A2 (K7 PassesOwn.never rfl (N5 rfl zrange (A0 (pv 1) A1)) (C5 (i:=5) nd rfl (Or.inl rfl)) (A2 (S8 (i:=8) (xs:=["_law_j"]) (cs ["_law_cell","_law_count","_law_letters","_law_names_here","_law_text_here","_law_k","_law_size","_law_at","_law_signs"] (A7 Gg) rfl rfl (by decide +kernel)) rfl nd rfl rfl (N5 rfl zrange (A0 (pv 6) A1)) (fun _ _ _=>C5 (i:=0) (show (["_law_j","_law_cell","_law_count","_law_letters","_law_names_here","_law_text_here","_law_k","_law_size","_law_at","_law_signs"]:List Str).Nodup by decide +kernel) rfl (Or.inl rfl)) (fun _ _ _=>K5) (fun _ _ _=>(C4 Oc (pv 3) (B0 E2 (B0 F9 (B0 F4 (pv 1) (B0 F9 (pv 0) A5)) (B0 V9 (pv 0) (pv 0))) A5) (fun _ _=>rfl))))
   (A2 (Gc (C4 Oc (pv 2) (B0 E2 (B0 F9 (B0 F4 (pv 0) A5) (pv 5)) A5) (fun _ _=>rfl)) (Yl (pv 8) (pv 7) Mx))
   (A4 (O5 (I9 PySem.F.plainAttrs_list PySem.F.slot_list_append PySem.F.type_list_append N2 (pv 3) (A0 (I9 PySem.F.plainAttrs_str PySem.F.slot_str_join PySem.F.type_str_join N3 B9 (A0 (pv 8) A1)) A1)))))))
   (A4 (A9 (pv 3))))))))),?_⟩
  refine ⟨(by show 0<=sizeLine; decide),fun nl hnl=>?_⟩
  have s1:=Same.new (o:=.lst []) hnl
  have h1:(upd H nl (.lst [])) nl=some (.lst []):=A3
  generalize upd H nl (.lst [])=H1 at s1 h1
  refine ⟨_,rfl,c,2,rfl,rfl,(by show 0 < 2; decide),c % 2,1,rfl,rfl,_,rfl,E8 (fun hc=>?_) (fun hc=>?_)⟩
  ·have hr26:c / 2 % 26 < 26:=Nat.mod_lt _ (by decide)
   have er:∀i,(c / 2 + 3 * i) % 26=(c / 2 % 26 + 3 * i) % 26:=fun i=>by omega
   generalize c / 2 % 26=r at hr26 er
   refine ⟨rfl,8,rfl,by decide,by decide,U3 (k:=8) (fun i acc H'=>H' = H1/\acc=(((Bk r).take i).map sng).map V.str) (by decide) ⟨rfl,rfl⟩ (fun i acc H' hi h=>?_) (fun i acc H' hi h=>?_) (fun acc H' h=>?_)⟩
   ·obtain ⟨rfl,rfl⟩:=h
    rw [Θl,Θl]
    exact List.length_take_le _ _
   ·obtain ⟨rfl,rfl⟩:=h
    refine ⟨rfl,_,rfl,_,rfl,c,2,rfl,rfl,⟨by decide,by decide⟩,_,rfl,3,i,rfl,rfl,(by show 3 < 2 ^ 64; decide),c / 2,3 * i,rfl,rfl,c / 2 + 3 * i,26,rfl,rfl,(by show 0 < 26; decide),letS,_,_,rfl,rfl,Fu,A6 (Oh _ (Nat.mod_lt _ (by decide))),rfl,?_⟩
    rw [List.take_succ,Abe hi,er,Zw_,Zw_]
    rfl
   obtain ⟨rfl,rfl⟩:=h
   intro jl hjl
   have s2:=s1.trans (Same.new (o:=.lst ((((Bk r).take 8).map sng).map V.str)) hjl)
   have hj:(upd H' jl (.lst ((((Bk r).take 8).map sng).map V.str))) jl=some (.lst (((Bk r).map sng).map V.str)):=by rw [A3]; rfl
   have h2:=(Same.new (o:=.lst ((((Bk r).take 8).map sng).map V.str)) hjl) _ _ h1
   generalize upd H' jl (.lst ((((Bk r).take 8).map sng).map V.str))=H2 at s2 hj h2
   refine ⟨noS,jl,(Bk r).map sng,rfl,rfl,SqL.of hj,Zr _ (by unfold Bk; rw [Θl,List.length_range]; decide),?_⟩
   have e:Txt.join noS ((Bk r).map sng)=Tt r:=by rw [N1]; exact Fs _
   rw [e]
   have lo:(Tt r).length=8:=by show (Bk r).toArray.size=8; unfold Bk; rw [List.size_toArray,Θl,List.length_range]
   refine ⟨_,rfl,(n:Int),rfl,by omega,by omega,Ag (n:=n) (fun i σ H'=>(∃v5,σ=[some (vN c),some (vN n),some (.str letS),some (.ref nl),some (.str (Tt r)),v5,none,none,none])/\Same H H'/\H' nl=some (.lst ((He r i).map V.str))) ⟨⟨_,rfl⟩,s2,h2⟩ ?_ ?_⟩
   ·rintro i σ H' hi ⟨⟨v5,rfl⟩,s3,h3⟩
    refine ⟨_,rfl,.inl ⟨rfl,_,SqL.of h3⟩,_,rfl,_,rfl,i,5,rfl,rfl,(by show 0 < 5; decide),_,rfl,_,rfl,i,5,rfl,rfl,(by show 0 < 5; decide),i % 5,1,rfl,rfl,_,rfl,i,5,rfl,rfl,⟨by decide,by decide⟩,i % 5 + 1,i / 5,rfl,rfl,_,rfl,Tt r,rfl,by omega,nl,_,_,rfl,rfl,h3,D0 (by unfold He; rw [Θl,Θl,List.length_range]; omega),?_⟩
    refine ⟨⟨_,rfl⟩,s3.over hnl,?_⟩
    rw [A3,Ts,Zw_]
    rfl
   ·rintro σ H' ⟨⟨v5,rfl⟩,s3,h3⟩
    exact ⟨_,rfl,q (He r n) nl H' (Adc (Ady r hr26 n (by omega) n1)) (Adz hr26 n7) (by unfold He; rw [Θl,List.length_range]) s3 hnl h3⟩
  ·obtain ⟨z,ez,z1,z8,z4,z6⟩:=Acg (c / 2 % 6) (Nat.mod_lt _ (by decide))
   refine ⟨(by show 6<=sizeLine; decide),fun g hg=>?_⟩
   have s2:=s1.trans (Same.new (o:=.lst [V.int 1,V.int 2,V.int 3,V.int 5,V.int 7,V.int 8]) hg)
   have hg2:(upd H1 g (.lst [V.int 1,V.int 2,V.int 3,V.int 5,V.int 7,V.int 8])) g=some (.lst [V.int 1,V.int 2,V.int 3,V.int 5,V.int 7,V.int 8]):=A3
   have h2:=(Same.new (o:=.lst [V.int 1,V.int 2,V.int 3,V.int 5,V.int 7,V.int 8]) hg) _ _ h1
   generalize upd H1 g (.lst [V.int 1,V.int 2,V.int 3,V.int 5,V.int 7,V.int 8])=H2 at s2 hg2 h2
   refine ⟨_,rfl,c,2,rfl,rfl,⟨by decide,by decide⟩,c / 2,6,rfl,rfl,(by show 0 < 6; decide),g,_,_,_,rfl,rfl,SqL.of hg2,A6 ez,?_⟩
   refine ⟨_,rfl,c,12,rfl,rfl,⟨by decide,by decide⟩,_,rfl,c / 12,z,rfl,rfl,z1,?_⟩
   have hat:c / 12 % z < z:=Nat.mod_lt _ z1
   dsimp (config:={ proj:=false,iota:=false }) only
   generalize c / 12 % z=at_ at hat
   refine ⟨_,rfl,(n:Int),rfl,by omega,by omega,Ag (n:=n) (fun i σ H'=>(∃v5 v8,σ=[some (vN c),some (vN n),some (.str letS),some (.ref nl),none,v5,some (vN z),some (vN at_),v8])/\Same H H'/\H' nl=some (.lst ((evN c z at_ i).map V.str))) ⟨⟨_,_,rfl⟩,s2,h2⟩ ?_ ?_⟩
   ·rintro i σ H' hi ⟨⟨v5,v8,rfl⟩,s3,h3⟩
    refine ⟨_,rfl,(z:Int),rfl,by omega,by omega,U3 (k:=z) (fun j acc H4=>H4=H'/\acc=(((evB c z).take j).map sng).map V.str) (by omega) ⟨rfl,rfl⟩ (fun j acc H4 hj h=>?_) (fun j acc H4 hj h=>?_) (fun acc H4 h=>?_)⟩
    ·obtain ⟨rfl,rfl⟩:=h
     rw [Θl,Θl]
     exact List.length_take_le _ _
    ·obtain ⟨rfl,rfl⟩:=h
     refine ⟨rfl,_,rfl,_,rfl,_,rfl,j,1,rfl,rfl,c,j + 1,rfl,rfl,⟨by omega,by omega⟩,_,rfl,_,rfl,j,j,rfl,rfl,(by show j < 2 ^ 64; omega),c / (j + 1),j * j,rfl,rfl,c / (j + 1) + j * j,26,rfl,rfl,(by show 0 < 26; decide),letS,_,_,rfl,rfl,Fu,A6 (Oh _ (Nat.mod_lt _ (by decide))),rfl,?_⟩
     rw [List.take_succ,Adl hj,Zw_,Zw_]
     rfl
    obtain ⟨rfl,rfl⟩:=h
    intro sl hsl
    have lb:(evB c z).length=z:=by unfold evB; rw [Θl,List.length_range]
    have tk:(evB c z).take z=evB c z:=List.take_of_length_le (by omega)
    rw [tk]
    have s4:=Same.new (o:=.lst (((evB c z).map sng).map V.str)) hsl
    have hs4:(upd H4 sl (.lst (((evB c z).map sng).map V.str))) sl=some (.lst (((evB c z).map sng).map V.str)):=A3
    have h4:=s4 _ _ h3
    have nsl:H sl=none:=s3.none hsl
    have nns:nl≠sl:=C7 h3 hsl
    have s5:=s3.trans s4
    generalize upd H4 sl (.lst (((evB c z).map sng).map V.str))=H5 at s5 hs4 h4
    refine ⟨_,rfl,_,rfl,c,96,rfl,rfl,⟨by decide,by decide⟩,_,rfl,c / 96,i,rfl,rfl,c / 96 + i,26,rfl,rfl,(by show 0 < 26; decide),letS,_,_,rfl,rfl,Fu,A6 (Oh _ (Nat.mod_lt _ (by decide))),_,rfl,_,rfl,sl,_,_,at_,rfl,rfl,hs4,Aa7 (by rw [Θl,Θl,lb]; exact hat),?_⟩
    have ee:(((evB c z).map sng).map V.str).set at_ (V.str ⟨#[97 + (c / 96 + i) % 26]⟩)=((evL c z at_ i).map sng).map V.str:=by
     unfold evL
     rw [List.map_set,List.map_set]; rfl
    rw [ee]
    have s6:=s5.over (o:=.lst (((evL c z at_ i).map sng).map V.str)) nsl
    have hs6:(upd H5 sl (.lst (((evL c z at_ i).map sng).map V.str))) sl=some (.lst (((evL c z at_ i).map sng).map V.str)):=A3
    have h6:(upd H5 sl (.lst (((evL c z at_ i).map sng).map V.str))) nl=some (.lst ((evN c z at_ i).map V.str)):=by rw [C6 nns]; exact h4
    generalize upd H5 sl (.lst (((evL c z at_ i).map sng).map V.str))=H6 at s6 hs6 h6
    refine ⟨_,rfl,.inl ⟨rfl,_,SqL.of h6⟩,rfl,_,rfl,noS,sl,(evL c z at_ i).map sng,rfl,rfl,SqL.of hs6,Zr _ (by rw [Jl]; omega),?_⟩
    have e:Txt.join noS ((evL c z at_ i).map sng)=evS c z at_ i:=by rw [N1]; exact Fs _
    rw [e]
    refine ⟨nl,_,_,rfl,rfl,h6,D0 (by unfold evN; rw [Θl,Θl,List.length_range]; omega),?_⟩
    refine ⟨⟨_,_,rfl⟩,s6.over hnl,?_⟩
    rw [A3,Wc,Zw_]
    rfl
   ·rintro σ H' ⟨⟨v5,v8,rfl⟩,s3,h3⟩
    exact ⟨_,rfl,q (evN c z at_ n) nl H' (Aft hat z8 n1 n7) (Afu z4 z6) (by unfold evN; rw [Θl,List.length_range]) s3 hnl h3⟩
noncomputable abbrev Kl:Stmt:=top 85
theorem scMkRule:FnScope ["_law_cell","_law_many","_law_full_here","_law_left","_law_right"] ["_law_cell","_law_many"] (A7 Kl):=⟨rfl,rfl,rfl,by decide +kernel,rfl,by decide +kernel,by decide +kernel⟩
theorem Ud {f:Addr} {fd:FuncData} (F:Fun K "_law_rule" "_law_rule" Kl f fd):FnOk P w K mg base CX0 1 f fd ["_law_cell","_law_many"] Cb:=by
 refine F.ok scMkRule (fun vs H Q E h=>?_) (fun cdv A outer s H vs Q E hr h=>?_)
 ·obtain ⟨c,m,rfl,_⟩:=h
  rfl
 ·obtain ⟨c,m,rfl,hc,m1,m7,q⟩:=h
  have nd:=scMkRule.nd
  have pw0:0 < 2 ^ m:=Nat.two_pow_pos m
  refine ⟨_,(A2 (C0 (i:=2) nd rfl (Or.inl rfl) (B0 P9 A5 (pv 1))) (A2 (C0 (i:=3) nd rfl (Or.inl rfl) (B0 E2 (B0 F4 (pv 0) A5) (pv 2))) (Et (fun σ H'=>H' = H/\∃l,l < 2 ^ m/\σ=[some (vN c),some (vN m),some (vN (2 ^ m)),some (vN l),none]) (D1 (B1 T5 (B0 E2 (B0 F4 (pv 0) A5) A5) A5 (C3 _)) (A4 (C0 (i:=3) nd rfl (Or.inl rfl) (B0 O4 (pv 3) (B0 E2 (B0 F4 (pv 0) A5) (pv 2))))) C1) (A2 (C0 (i:=4) nd rfl (Or.inl rfl) (B0 E2 (B0 F4 (pv 0) A5) (pv 2))) (Et (fun σ H'=>H' = H/\∃l r,l < 2 ^ m/\r < 2 ^ m/\σ=[some (vN c),some (vN m),some (vN (2 ^ m)),some (vN l),some (vN r)]) (D1 (B1 O1 (B0 E2 (B0 F4 (pv 0) A5) A5) A5 (C3 _)) (A4 (C0 (i:=4) nd rfl (Or.inl rfl) (B0 O4 (pv 4) (B0 E2 (B0 E2 (B0 V9 (pv 0) A5) A5) (pv 2))))) C1) (A4 (A9 (F2 (A0 (C4 (C9 (K:=K) rfl) (E5 (A0 B9 (A0 B9 (A0 B9 A1)))) (B0 E2 (pv 0) A5) (fun _ _=>rfl)) (A0 (pv 3) (A0 (pv 4) A1))))))))))),?_⟩
  refine ⟨_,rfl,m,rfl,rfl,by omega,?_⟩
  refine ⟨_,rfl,c,3,rfl,rfl,⟨by decide,by decide⟩,_,rfl,c / 3,2 ^ m,rfl,rfl,pw0,?_⟩
  refine ⟨⟨_,rfl,c,384,rfl,rfl,⟨by decide,by decide⟩,c / 384,4,rfl,rfl,(by show 0 < 4; decide),_,0,rfl,rfl,_,rfl,E8 (fun _=>?_) (fun _=>?_)⟩,?_⟩
  ·refine ⟨_,rfl,_,rfl,c,1536,rfl,rfl,⟨by decide,by decide⟩,_,rfl,c / 1536,2 ^ m,rfl,rfl,pw0,c / 3 % 2 ^ m,_,rfl,rfl,?_⟩
   exact ⟨rfl,_,Nat.lt_of_le_of_lt Nat.and_le_left (Nat.mod_lt _ pw0),rfl⟩
  ·exact ⟨rfl,_,Nat.mod_lt _ pw0,rfl⟩
  rintro _ _ ⟨rfl,l,hl,rfl⟩
  refine ⟨_,rfl,c,196608,rfl,rfl,⟨by decide,by decide⟩,_,rfl,c / 196608,2 ^ m,rfl,rfl,pw0,?_⟩
  refine ⟨⟨_,rfl,c,25165824,rfl,rfl,⟨by decide,by decide⟩,c / 25165824,3,rfl,rfl,(by show 0 < 3; decide),_,1,rfl,rfl,_,rfl,E8 (fun _=>?_) (fun _=>?_)⟩,?_⟩
  ·refine ⟨_,rfl,_,rfl,c,16807,rfl,rfl,by omega,c * 16807,65537,rfl,rfl,(by show 0 < 65537; decide),_,rfl,c * 16807 % 65537,2 ^ m,rfl,rfl,pw0,c / 196608 % 2 ^ m,_,rfl,rfl,?_⟩
   exact ⟨rfl,_,_,hl,Nat.lt_of_le_of_lt Nat.and_le_left (Nat.mod_lt _ pw0),rfl⟩
  ·exact ⟨rfl,_,_,hl,Nat.mod_lt _ pw0,rfl⟩
  rintro _ _ ⟨rfl,l,r,hl,hr',rfl⟩
  refine ⟨(by show 3<=sizeLine; decide),fun g hg=>?_⟩
  obtain ⟨sb,esb⟩:∃sb:Bool,([V.str "settle",V.str "settle",V.str "deal"]:List V)[c % 3]? = some (V.str (D6 sb)):=by
   have h3:c % 3 < 3:=Nat.mod_lt _ (by decide)
   match c % 3,h3 with
   | 0,_=>exact ⟨true,rfl⟩
   | 1,_=>exact ⟨true,rfl⟩
   | 2,_=>exact ⟨false,rfl⟩
  refine ⟨_,rfl,c,3,rfl,rfl,(by show 0 < 3; decide),g,_,_,_,rfl,rfl,SqL.of A3,A6 esb,_,rfl,_,rfl,(by show 3<=sizeLine; decide),fun t ht=>?_⟩
  have s1:=Same.new (o:=.lst [V.str "settle",V.str "settle",V.str "deal"]) hg
  have s2:=Same.new (o:=.tup [V.str (D6 sb),vN l,vN r]) ht
  refine q sb l r t _ hl hr' (s1.trans s2) ?_ A3
  by_cases e:t=g
  ·rw [e]; exact hg
  ·rw [C6 e] at ht; exact ht
section
noncomputable abbrev Fa:Stmt:=top 86
theorem scLRules:FnScope ["_law_script","_law_many","_law_count"] ["_law_script","_law_many"] (A7 Fa):=⟨rfl,rfl,rfl,by decide +kernel,rfl,by decide +kernel,by decide +kernel⟩
theorem Uc {f fCA fRU:Addr} {fd fdCA fdRU:FuncData} (F:Fun K "_law_rules" "_law_rules" Fa f fd) (GCA:FnOk P w K mg base CX0 1 fCA fdCA ["_law_script","_law_k"] (Bz K)) (mCA:mg "_law_cell_at" = some (.ref fCA)) (kCA:Θk K fCA) (bCA:Binds K fdCA ["_law_script","_law_k"] []) (GRU:FnOk P w K mg base CX0 1 fRU fdRU ["_law_cell","_law_many"] Cb) (mRU:mg "_law_rule" = some (.ref fRU)) (kRU:Θk K fRU) (bRU:Binds K fdRU ["_law_cell","_law_many"] []) (zrange:mg "range" = none):FnOk P w K mg base CX0 2 f fd ["_law_script","_law_many"] (Nb K):=by
 refine F.ok scLRules (fun vs H Q E h=>?_) (fun cdv A outer s H vs Q E hr h=>?_)
 ·obtain ⟨sc,ns,m,rfl,_⟩:=h
  rfl
 ·obtain ⟨sc,ns,m,rfl,hS,m1,m7,q⟩:=h
  have nd:=scLRules.nd
  have hr1:Room 1 _:=hr.mono (by decide)
  refine ⟨_,(A2 (C0 (i:=2) nd rfl (Or.inl rfl) (C4 (C9 (K:=K) rfl) (E5 (J0 A5 (J0 A5 (J0 A5 (J0 A5 (J0 A5 (J0 A5 (J0 A5 (J0 A5 (J0 A5 A1)))))))))) (B0 E2 (A8 GCA hr1 rfl mCA kCA bCA .nil B2 (A0 (pv 0) (A0 A5 A1))) A5) (fun _ _=>rfl)))
   (A4 (A9 (K0 (xs:=["_law_k"]) (cs ["_law_script","_law_many","_law_count"] (A7 Fa) rfl rfl (by decide +kernel)) rfl (N5 rfl zrange (A0 (pv 2) A1)) (fun _ _ _=>C5 (i:=0) (show (["_law_k","_law_script","_law_many","_law_count"]:List Str).Nodup by decide +kernel) rfl (Or.inl rfl)) (fun _ _ _=>K5) (fun _ _ _=>(A8 GRU hr1 rfl mRU kRU bRU .nil B2 (A0 (A8 GCA hr1 rfl mCA kCA bCA .nil B2 (A0 (pv 1) (A0 (B0 F9 A5 (pv 0)) A1))) (A0 (pv 2) A1)))))))),?_⟩
  refine ⟨(by show 9<=sizeLine; decide),fun g hg=>?_⟩
  have s1:=Same.new (o:=.lst [vN 3,vN 4,vN 5,vN 6,vN 8,vN 2,vN 1,vN 0,vN 12]) hg
  refine ⟨_,rfl,sc,ns,1,rfl,s1.seq hS,by omega,fun c hc=>?_⟩
  obtain ⟨n,en,hn⟩:∃n:Nat,([vN 3,vN 4,vN 5,vN 6,vN 8,vN 2,vN 1,vN 0,vN 12]:List V)[c % 9]? = some (vN n)/\n<=12:=by
   have h9:c % 9 < 9:=Nat.mod_lt _ (by decide)
   match c % 9,h9 with
   | 0,_=>exact ⟨3,rfl,by decide⟩
   | 1,_=>exact ⟨4,rfl,by decide⟩
   | 2,_=>exact ⟨5,rfl,by decide⟩
   | 3,_=>exact ⟨6,rfl,by decide⟩
   | 4,_=>exact ⟨8,rfl,by decide⟩
   | 5,_=>exact ⟨2,rfl,by decide⟩
   | 6,_=>exact ⟨1,rfl,by decide⟩
   | 7,_=>exact ⟨0,rfl,by decide⟩
   | 8,_=>exact ⟨12,rfl,by decide⟩
  refine ⟨c,9,rfl,rfl,(by show 0 < 9; decide),g,_,_,_,rfl,rfl,SqL.of A3,A6 en,?_⟩
  refine ⟨_,rfl,(n:Int),rfl,by omega,by omega,U3 (k:=n) (n:=1) (fun i acc H'=>∃rs:List Rl,acc=(rs.map fun r=>V.ref r.r)/\rs.length=i/\RulesAt H' m rs/\Same H H') (by omega) ⟨[],rfl,rfl,(fun r h=>absurd h Zi_),s1⟩ (fun i acc H' hi h=>?_) (fun i acc H' hi h=>?_) (fun acc H' h=>?_)⟩
  ·obtain ⟨rs,rfl,e,_⟩:=h
   rw [Θl,e]; exact Zd_ _
  ·obtain ⟨rs,rfl,e,hRs,s'⟩:=h
   refine ⟨rfl,_,rfl,_,rfl,4,i,rfl,rfl,sc,ns,4 + i,rfl,s'.seq hS,by omega,fun c1 hc1=>⟨_,rfl,c1,m,rfl,by omega,m1,m7,fun st x y r H1 hx hy s2 hr2 hR2=>?_⟩⟩
   refine ⟨rs++[⟨r,st,x,y⟩],by rw [Zw_]; rfl,by rw [Zv_,e]; rfl,fun v hv=>?_,s'.trans s2⟩
   rcases Θa hv with hv | hv
   ·exact ⟨s2 _ _ (hRs v hv).1,(hRs v hv).2⟩
   ·rw [Θs hv]; exact ⟨hR2,hx,hy⟩
  ·obtain ⟨rs,rfl,e,hRs,s'⟩:=h
   intro p hp
   exact q rs p _ (hRs.same (Same.new hp)) (by omega) (s'.trans (Same.new hp)) (s'.none hp) A3
end
end
end Own
namespace Own
open PySem L2
section
variable {P:Program} {w:World} {K:Θf} {mg:Str->Option Value} {base:Heap}
seal PySem.wpAny
noncomputable abbrev Po:Stmt:=top 87
theorem scTable:FnScope ["_law_script","_law_most","_law_many","_law_names_here","_law_rules_here","_law_word","_law_left","_law_right"] ["_law_script","_law_most"] (A7 Po):=⟨rfl,rfl,rfl,by decide +kernel,rfl,by decide +kernel,by decide +kernel⟩
theorem Yd {f fCA fNA fLR:Addr} {fd fdCA fdNA fdLR:FuncData} (F:Fun K "_law_table" "_law_table" Po f fd) (GCA:FnOk P w K mg base CX0 1 fCA fdCA ["_law_script","_law_k"] (Bz K)) (mCA:mg "_law_cell_at" = some (.ref fCA)) (kCA:Θk K fCA) (bCA:Binds K fdCA ["_law_script","_law_k"] []) (GNA:FnOk P w K mg base CX0 1 fNA fdNA ["_law_cell","_law_count"] Iv) (mNA:mg "_law_names" = some (.ref fNA)) (kNA:Θk K fNA) (bNA:Binds K fdNA ["_law_cell","_law_count"] []) (GLR:FnOk P w K mg base CX0 2 fLR fdLR ["_law_script","_law_many"] (Nb K)) (mLR:mg "_law_rules" = some (.ref fLR)) (kLR:Θk K fLR) (bLR:Binds K fdLR ["_law_script","_law_many"] []):FnOk P w K mg base CX0 3 f fd ["_law_script","_law_most"] (Ix K):=by
 refine F.ok scTable (fun vs H Q E h=>?_) (fun cdv A outer s H vs Q E hr h=>?_)
 ·obtain ⟨sc,ns,mo,rfl,_⟩:=h
  rfl
 ·obtain ⟨sc,ns,mo,rfl,mo1,mo7,hS,q⟩:=h
  have nd:=scTable.nd
  have hr1:Room 1 _:=hr.mono (by decide)
  have hr2:Room 2 _:=hr.mono (by decide)
  refine ⟨_,(A2 (C0 (i:=2) nd rfl (Or.inl rfl) (B0 F9 A5 (B0 E2 (A8 GCA hr1 rfl mCA kCA bCA .nil B2 (A0 (pv 0) (A0 A5 A1))) (pv 1))))
   (A2 (C0 (i:=3) nd rfl (Or.inl rfl) (A8 GNA hr1 rfl mNA kNA bNA .nil B2 (A0 (A8 GCA hr1 rfl mCA kCA bCA .nil B2 (A0 (pv 0) (A0 A5 A1))) (A0 (pv 2) A1))))
   (A2 (C0 (i:=4) nd rfl (Or.inl rfl) (E5 A1))
   (A2 (K7 PassesOwn.never rfl (E3 (K:=K) rfl (A8 GLR hr2 rfl mLR kLR bLR .nil B2 (A0 (pv 0) (A0 (pv 2) A1)))) (T6 rfl (E1 (C5 (i:=5) nd rfl (Or.inl rfl)) (E1 (C5 (i:=6) nd rfl (Or.inl rfl)) (E1 (C5 (i:=7) nd rfl (Or.inl rfl)) N4)))) (A2 (D1 (B1 O1 (pv 7) A5 (C3 _)) (A4 (C0 (i:=7) nd rfl (Or.inl rfl) (B0 P9 A5 (B0 E2 (pv 6) (pv 2))))) C1)
   (A4 (O5 (I9 PySem.F.plainAttrs_list PySem.F.slot_list_append PySem.F.type_list_append N2 (pv 4) (A0 (F2 (A0 (pv 5) (A0 (pv 6) (A0 (pv 7) A1)))) A1))))))
   (A4 (A9 (F2 (A0 (pv 3) (A0 (pv 4) A1))))))))),?_⟩
  refine ⟨_,rfl,sc,ns,0,rfl,hS,by omega,fun c0 hc0=>⟨_,rfl,c0,mo,rfl,rfl,(by show 0 < mo; omega),1,c0 % mo,rfl,rfl,?_⟩⟩
  have cm:=Nat.mod_lt c0 (show mo > 0 by omega)
  have m1:1<=1 + c0 % mo:=by omega
  have m7:1 + c0 % mo<=7:=by omega
  dsimp (config:={ proj:=false,iota:=false }) only
  generalize 1 + c0 % mo=m at m1 m7
  refine ⟨_,rfl,sc,ns,3,rfl,hS,by omega,fun c3 hc3=>⟨_,rfl,c3,m,rfl,m1,m7,fun nms nl H1 NN NNW en s1 hnl0 hnl=>?_⟩⟩
  subst en
  refine ⟨(by show 0<=sizeLine; decide),fun rl hrl0=>?_⟩
  have s2:=Same.new (o:=.lst []) hrl0
  have hrl:(upd H1 rl (.lst [])) rl=some (.lst (([]:List Rl).map fun (r:Rl)=>V.ref r.r)):=A3
  have hnl2:=s2 _ _ hnl
  have nrl:H rl=none:=s1.none hrl0
  have nnr:nl≠rl:=C7 hnl hrl0
  replace s2:=s1.trans s2
  generalize upd H1 rl (.lst [])=H2 at s2 hrl hnl2
  refine ⟨_,rfl,_,rfl,sc,ns,nms.length,rfl,s2.seq hS,m1,m7,fun rs p H3 hR l12 s3 hp0 hp=>?_⟩
  have hrl3:=s3 _ _ hrl
  have hnl3:=s3 _ _ hnl2
  have npr:p≠rl:=fun z=>by rw [z,hrl] at hp0; cases hp0
  have nrr:∀r∈rs,r.r≠rl:=fun r hr' z=>by
   have:=(hR r hr').1
   unfold E4 at this
   rw [z,hrl3] at this
   cases this
  replace s3:=s2.trans s3
  have lr:(rs.map fun (r:Rl)=>V.ref r.r).length=rs.length:=Θl ..
  refine ⟨p,rfl,⟨_,SqL.of hp⟩,M6 (K:=K) (xs:=rs.map fun (r:Rl)=>V.ref r.r) (fun i σ H'=>(∃v5 v6 v7,σ=[some (.ref sc),some (vN mo),some (vN nms.length),some (.ref nl),some (.ref rl),v5,v6,v7])/\But rl H3 H'/\Same H H'/\∃ks:List Rl,ks.length=i/\RulesAt H' nms.length ks/\(∀r∈ks,r.y≠0/\r.r≠rl)/\H' rl=some (.lst (ks.map fun (r:Rl)=>V.ref r.r))) ⟨⟨_,_,_,rfl⟩,But.refl _ _,s3,[],rfl,(fun r h=>absurd h Zi_),(fun r h=>absurd h Zi_),hrl3⟩ (fun i σ H' _ h=>SqL.of (h.2.1 _ _ hp npr)) ?_ ?_⟩
  ·rintro i v σ H4 hv ⟨⟨v5,v6,v7,rfl⟩,B4,s4,ks,lk,hK,hne,hrl4⟩
   rw [Θg] at hv
   cases ec:rs[i]? with
   | none=>rw [ec] at hv; cases hv
   | some r=>
    rw [ec] at hv
    obtain rfl:=(Θo hv).symm
    have hm:=Θe ec
    have hi:i < rs.length:=(Ze_.mp ec).1
    have hr4:E4 H4 r.r r.st r.x r.y:=B4 _ _ (hR r hm).1 (nrr r hm)
    have hxm:=(hR r hm).2
    refine ⟨r.r,_,rfl,SqT.of hr4,rfl,_,_,rfl,_,_,rfl,_,_,rfl,rfl,?_⟩
    refine ⟨_,rfl,r.y,0,rfl,rfl,_,rfl,E8 (fun hc=>?A) (fun hc=>?B)⟩
    case' A=>
     refine ⟨_,rfl,_,rfl,r.x,nms.length,rfl,rfl,m1,r.x % nms.length,rfl,rfl,(by have:=Nat.mod_lt r.x m1; omega),?_⟩
     have hy0:2 ^ (r.x % nms.length)≠0:=Nat.ne_of_gt (Nat.two_pow_pos _)
     have hyl:2 ^ (r.x % nms.length) < 2 ^ nms.length:=Nat.pow_lt_pow_right (by decide) (Nat.mod_lt r.x m1)
     dsimp (config:={ proj:=false,iota:=false }) only
     generalize 2 ^ (r.x % nms.length)=y at hy0 hyl
    case' B=>
     have hy0:r.y≠0:=fun z=>hc (Zr_ z)
     have hyl:=hxm.2
     generalize r.y=y at hy0 hyl
    all_goals
     refine ⟨_,rfl,.inl ⟨rfl,_,SqL.of hrl4⟩,_,rfl,_,rfl,_,rfl,(by show 3<=sizeLine; decide),fun t ht=>?_⟩
     have s5:=Same.new (o:=.tup [V.str (D6 r.st),vN r.x,vN y]) ht
     have hrl5:=s5 _ _ hrl4
     have ht5:(upd H4 t (.tup [V.str (D6 r.st),vN r.x,vN y])) t=some (.tup [V.str (D6 r.st),vN r.x,vN y]):=A3
     have ntr:t≠rl:=(C7 hrl4 ht).symm
     refine ⟨rl,_,_,rfl,rfl,hrl5,D0 (by rw [Θl]; omega),?_⟩
     generalize upd H4 t (.tup [V.str (D6 r.st),vN r.x,vN y])=H5 at s5 hrl5 ht5
     refine ⟨⟨_,_,_,rfl⟩,fun b o hb nb=>by rw [C6 nb]; exact s5 _ _ (B4 b o hb nb),(s4.trans s5).over nrl,ks++[⟨t,r.st,r.x,y⟩],by rw [Zv_,lk]; rfl,fun k hk=>?_,fun k hk=>?_,?_⟩
     ·rcases Θa hk with hk | hk
      ·refine ⟨?_,(hK k hk).2⟩
       show upd H5 rl _ k.r=_
       rw [C6 (hne k hk).2]
       exact s5 _ _ (hK k hk).1
      ·rw [Θs hk]
       refine ⟨?_,hxm.1,hyl⟩
       show upd H5 rl _ t=_
       rw [C6 ntr]
       exact ht5
     ·rcases Θa hk with hk | hk
      ·exact hne k hk
      ·rw [Θs hk]; exact ⟨hy0,ntr⟩
     ·rw [A3,Zw_]; rfl
  ·rintro σ H4 ⟨⟨v5,v6,v7,rfl⟩,B4,s4,ks,lk,hK,hne,hrl4⟩
   refine ⟨_,rfl,_,rfl,(by show 2<=sizeLine; decide),fun t ht=>?_⟩
   have s5:=Same.new (o:=.tup [V.ref nl,V.ref rl]) ht
   exact q t nl rl nms ks _ nrl NN NNW (s4.trans s5) (hK.same s5) (fun r hr'=>(hne r hr').1) (by rw [lk,lr]; exact l12) A3 (s5 _ _ (B4 _ _ hnl3 nnr)) (s5 _ _ hrl4)
end
end Own
namespace Own
open PySem L2
section
variable {P:Program} {w:World} {K:Θf} {mg:Str->Option Value} {base:Heap}
seal PySem.wpAny
noncomputable def Ru (K:Θf):Sp:=fun vs H Q _=>∃(a:Addr) (ns:List Int),vs=[.ref a]/\SqF K H a ns/\ns.length<=63/\∀H',Q (.bl true) H'
noncomputable abbrev Ur:Stmt:=top 98
theorem scLaw:FnScope ["_law_script","_law_names_here","_law_rules_here","_law_desk","_law_k","_law_cell"] ["_law_script"] (A7 Ur):=⟨rfl,rfl,rfl,by decide +kernel,rfl,by decide +kernel,by decide +kernel⟩
theorem Ad6 {f fCA fTB fLT fDO fAW fQU fSY fDI CD CTM:Addr} {fd fdCA fdTB fdLT fdDO fdAW fdQU fdSY fdDI:FuncData} (F:Fun K "law" "law" Ur f fd) (GCA:FnOk P w K mg base CX0 1 fCA fdCA ["_law_script","_law_k"] (Bz K)) (mCA:mg "_law_cell_at" = some (.ref fCA)) (kCA:Θk K fCA) (bCA:Binds K fdCA ["_law_script","_law_k"] []) (GTB:FnOk P w K mg base CX0 3 fTB fdTB ["_law_script","_law_most"] (Ix K)) (mTB:mg "_law_table" = some (.ref fTB)) (kTB:Θk K fTB) (bTB:Binds K fdTB ["_law_script","_law_most"] []) (GLT:FnOk P w K mg base CX0 3 fLT fdLT ["_law_names_here","_law_rules_here"] (Cd K)) (mLT:mg "_law_text" = some (.ref fLT)) (kLT:Θk K fLT) (bLT:Binds K fdLT ["_law_names_here","_law_rules_here"] []) (GDO:FnOk P w K mg base CX0 140 fDO fdDO ["_law_desk","_law_names_here","_law_rules_here","_law_cell"] (Zt K CD)) (mDO:mg "_law_done" = some (.ref fDO)) (kDO:Θk K fDO) (bDO:Binds K fdDO ["_law_desk","_law_names_here","_law_rules_here","_law_cell"] []) (GAW:FnOk P w K mg base CX0 139 fAW fdAW ["_law_desk","_law_names_here","_law_rules_here","_law_rows"] (Ps K CD)) (mAW:mg "_law_as_anew" = some (.ref fAW)) (kAW:Θk K fAW) (bAW:Binds K fdAW ["_law_desk","_law_names_here","_law_rules_here","_law_rows"] []) (GQU:FnOk P w K mg base CX0 3 fQU fdQU ["_law_names_here","_law_cell"] (Ry K)) (mQU:mg "_law_question" = some (.ref fQU)) (kQU:Θk K fQU) (bQU:Binds K fdQU ["_law_names_here","_law_cell"] []) (T:DK K CD) (MS:Meth K CD "say" fSY) (GSYc:FnOk P w K mg base CX0 137 fSY fdSY ["self","row"] (fun vs H Q _=>Zx K CD CTM vs H Q fun _ _ _=>False)) (bSY:Binds K fdSY ["self","row"] []) (MD:Mk K CD fDI) (GDI:FnOk P w K mg base CX0 5 fDI fdDI ["self","text"] (Kv CD)) (bDI:Binds K fdDI ["self","text"] []) (mDK:mg "Desk" = some (.ref CD)) (zrange:mg "range" = none):FnOk P w K mg base CX0 141 f fd ["_law_script"] (Ru K):=by
 refine F.ok scLaw (fun vs H Q E h=>?_) (fun cdv A outer s H vs Q E hr h=>?_)
 ·obtain ⟨a,ns,rfl,_⟩:=h
  rfl
 ·obtain ⟨a,ns,rfl,hS,hlen,q⟩:=h
  have nd:=scLaw.nd
  have hr1:Room 1 _:=hr.mono (by decide)
  have hr3:Room 3 _:=hr.mono (by decide)
  have hr6:Room 6 _:=hr.mono (by decide)
  have hrY:Room 137 _:=hr.mono (by decide)
  have hrW:Room 139 _:=hr.mono (by decide)
  have hrD:Room 140 _:=hr.mono (by decide)
  refine ⟨_,(A2 (Gc (A8 GTB hr3 rfl mTB kTB bTB .nil B2 (A0 (pv 0) (A0 A5 A1))) (T6 rfl (E1 (C5 (i:=1) nd rfl (Or.inl rfl)) (E1 (C5 (i:=2) nd rfl (Or.inl rfl)) N4))))
   (A2 (C0 (i:=3) nd rfl (Or.inl rfl) (Re MD GDI hr6 (by rfl) mDK bDI .nil B2 (A0 (A8 GLT hr3 rfl mLT kLT bLT .nil B2 (A0 (pv 1) (A0 (pv 2) A1))) A1)))
   (A2 (K7 PassesOwn.never rfl (N5 rfl zrange (A0 A5 A1)) (C5 (i:=4) nd rfl (Or.inl rfl)) (A2 (D1 (R9 (K8 (A8 GDO hrD rfl mDO kDO bDO .nil B2 (A0 (pv 3) (A0 (pv 1) (A0 (pv 2) (A0 (A8 GCA hr1 rfl mCA kCA bCA .nil B2 (A0 (pv 0) (A0 (B0 F9 A5 (pv 4)) A1))) A1))))))) (A4 (A9 Q7)) C1)
   (A2 (C0 (i:=5) nd rfl (Or.inl rfl) (A8 GCA hr1 rfl mCA kCA bCA .nil B2 (A0 (pv 0) (A0 (B0 F9 A5 (pv 4)) A1))))
   (A2 (D1 (R9 (K8 (A8 GAW hrW rfl mAW kAW bAW .nil B2 (A0 (pv 3) (A0 (pv 1) (A0 (pv 2) (A0 (E5 (A0 (A8 GQU hr3 rfl mQU kQU bQU .nil B2 (A0 (pv 1) (A0 (pv 5) A1))) (A0 (A8 GQU hr3 rfl mQU kQU bQU .nil B2 (A0 (pv 1) (A0 (B0 F4 (pv 5) A5) A1))) A1))) A1))))))) (A4 (A9 Q7)) C1)
   (A4 (D1 (B1 op_ne (Y6 (pv 3) T.cl MS GSYc hrY bSY .nil B2 (A0 B9 A1)) (A8 GLT hr3 rfl mLT kLT bLT .nil B2 (A0 (pv 1) (A0 (pv 2) A1))) (C3 _)) (A4 (A9 Q7)) C1))))))
   (A4 (A9 Q7))))),?_⟩
  refine ⟨_,rfl,a,ns,5,rfl,by decide,by decide,hS.sq,fun t nl rl nms rs H2 nrl NN NNW s2 hR hy l12 ht hnl2 hrl2=>?_⟩
  refine ⟨t,_,rfl,SqT.of ht,rfl,_,_,rfl,_,_,rfl,rfl,?_⟩
  have hin:∀r∈rs.map Rl.d,InR nms r/\r.2.2≠0:=fun r hr'=>by
   obtain ⟨k,hk,rfl⟩:=Θn hr'
   exact ⟨(hR k hk).2,hy k hk⟩
  refine ⟨_,rfl,_,rfl,nl,rl,nms,rs,rfl,hnl2,NN,SqL.of hrl2,hR,l12,fun H3 s3 d dx hd0 hdx0 ndx=>?_⟩
  refine ⟨d,dx,nms,rs.map Rl.d,rfl,A3,NN,NNW,hin,by rw [Θl]; exact l12,fun nl2 rl2 ks H5 B5 n1 n2 n3 hn0 hr0 hD ek hK hn5 hr5=>⟨rfl,?_⟩⟩
  have s5:Same H3 H5:=fun b o e=>by
   have z1:b≠d:=C7 e hd0
   have z2:b≠dx:=C7 e hdx0
   exact B5 b o (by rw [C6 z1,C6 z2]; exact e) z1
  have dnone:H d=none:=s2.none (s3.none hd0)
  have rl3:=s3 _ _ hrl2
  have ner:rl≠rl2:=fun z=>by
   have e:(upd (upd H3 dx (.own d)) d (.ins CD dx [])) rl=some (.lst (rs.map fun (r:Rl)=>V.ref r.r)):=by rw [C6 (C7 rl3 hd0),C6 (C7 rl3 hdx0)]; exact rl3
   rw [z,hr0] at e
   cases e
  replace s3:=s3.trans s5
  have G5:DS H5 CD d nl2 rl2 nl rl nms ks rs:=⟨hD,hn5,hr5,s3 _ _ hnl2,s3 _ _ hrl2,hK,hR.same s3,ek,hy,l12,ner⟩
  replace s3:=s2.trans s3
  have keep:∀{H6 H7:Hp},Same H H6->Vf d rl H6 H7->Same H H7:=fun {H6 H7} s b c o e=>b c o (s c o e) (C7 e dnone) (C7 e nrl)
  refine ⟨12,rfl,by decide,by decide,Ag (n:=12) (fun i σ H'=>(∃v4 v5,σ=[some (.ref a),some (.ref nl),some (.ref rl),some (.ref d),v4,v5])/\Same H H'/\∃dl ks rs,DS H' CD d nl2 dl nl rl nms ks rs) ⟨⟨_,_,rfl⟩,s3,rl2,ks,rs,G5⟩ ?_ ?_⟩
  ·rintro i σ H6 hi ⟨⟨v4,v5,rfl⟩,s6,dl6,ks6,rs6,G6⟩
   refine ⟨_,rfl,_,rfl,_,rfl,_,rfl,_,rfl,20,i,rfl,rfl,a,ns,20 + i,rfl,s6.seq hS.sq,by omega,fun c hc=>?_⟩
   refine ⟨d,nl2,dl6,nl,rl,nms,ks6,rs6,c,rfl,G6,NN,NNW,by omega,fun dl7 ks7 rs7 H7 G7 B7=>⟨_,rfl,E7 ?_⟩⟩
   have s7:=keep s6 B7
   refine ⟨_,rfl,_,rfl,36,i,rfl,rfl,a,ns,36 + i,rfl,s7.seq hS.sq,by omega,fun e he=>?_⟩
   have e2:e / 1048576 < 2 ^ 32:=Nat.lt_of_le_of_lt (Nat.div_le_self _ _) (by omega)
   refine ⟨_,rfl,_,rfl,_,rfl,_,rfl,_,rfl,nl,nms,e,rfl,SqL.of G7.hnp,NN,by omega,fun a1 H8 ha1 s8=>?_⟩
   refine ⟨_,rfl,_,rfl,e,1048576,rfl,rfl,(by show 0 < 1048576/\1048576 < 1073741824; decide),nl,nms,e / 1048576,rfl,SqL.of (s8 _ _ G7.hnp),NN,e2,fun a2 H9 ha2 s9=>?_⟩
   refine ⟨(by show 2<=sizeLine; decide),fun l hl=>?_⟩
   replace s9:=s8.trans s9
   have s10:=s9.trans (Same.new (o:=.lst [V.str (Str.join C8 (O2 nms a1)),V.str (Str.join C8 (O2 nms a2))]) hl)
   have G10:=G7.same s10
   refine ⟨d,nl2,dl7,nl,rl,l,nms,ks7,rs7,[Str.join C8 (O2 nms a1),Str.join C8 (O2 nms a2)],rfl,G10.desk,G10.hdn,SqL.of G10.hdl,G10.hK,G10.e,G10.hnp,NN,NNW,SqL.of G10.hrl,G10.hR,G10.y0,G10.l12,SqL.of A3,by show 2<=100; decide,fun t ht=>?_,fun H11 s11=>⟨_,rfl,E7 ?_⟩⟩
   ·simp only [List.mem_cons,List.not_mem_nil,or_false] at ht
    rcases ht with rfl | rfl
    ·exact ⟨a1,ha1,rfl⟩
    ·exact ⟨a2,ha2,rfl⟩
   replace s11:=s10.trans s11
   have G11:=G7.same s11
   obtain ⟨dx1,hd1⟩:=id G11.desk
   have lk:=G11.lk
   have l11:=G11.l12
   refine ⟨_,rfl,d,dx1,_,rfl,hd1,rfl,d,nl2,dl7,nms,ks7,.show,rfl,G11.desk,G11.hdn,NN,SqL.of G11.hdl,G11.hK,by omega,trivial,fun t12 et H12 s12=>?_,fun en=>by cases en⟩
   cases et
   have G12:=G11.same s12
   refine ⟨_,rfl,_,rfl,nl,rl,nms,rs7,rfl,G12.hnp,NN,SqL.of G12.hrl,G12.hR,l11,fun H13 s13=>⟨rfl,_,rfl,?_⟩⟩
   rw [G7.e,Zr_ rfl]
   refine E7 ?_
   exact ⟨⟨_,_,rfl⟩,(s7.trans s11).trans (s12.trans s13),dl7,ks7,rs7,G12.same s13⟩
  ·rintro σ H6 _
   exact q _
end
end Own
namespace Own
open PySem L2
section
variable {P:Program} {w:World} {K:Θf} {mg:Str->Option Value} {base:Heap}
seal PySem.wpAny
noncomputable abbrev Io:Stmt:=Ek (top 81) 2
theorem scDLet:FnScope ["self","rule"] ["self","rule"] (A7 Io):=⟨rfl,rfl,rfl,by decide +kernel,rfl,by decide +kernel,by decide +kernel⟩
theorem Abj {f CD CTM:Addr} {fd:FuncData} {tkMR:PySem.Tok} (F:Fun K "let" "Desk.let" Io f fd) (OTM:Exc K "TooMany" CTM) (mMR:mg "MOST_RULES" = some (.int 12 tkMR)) (T:DK K CD) (zlen:mg "len" = none):FnOk P w K mg base (CX1 P w) 1 f fd ["self","rule"] (Ac3 K CD CTM):=by
 refine F.ok1 scDLet (fun vs H Q E h=>?_) (fun cdv A outer s H vs Q E hr h=>?_)
 ·obtain ⟨d,np,rl,r,xs,st,x,y,rfl,_⟩:=h
  rfl
 ·obtain ⟨d,np,rl,r,xs,st,x,y,rfl,hD,hrl,hr0,y0,l12,qe,qq⟩:=h
  have nd:=scDLet.nd
  obtain ⟨dx,hd⟩:=hD
  refine ⟨_,(A2 (D1 (B1 O1 (C4 (C2 (K:=K) rfl) (pv 1) A5 (fun _ _=>rfl)) A5 (C3 _)) (A4 M8) C1)
   (A2 (D1 (B1 Aeb (D2 (D9 (K:=K) rfl) (by rfl) zlen PySem.boot_len (A0 (Q0 (K:=K) rfl (pv 0) rfl) A1)) (L8 (v:=vN 12) (by rfl) mMR ⟨_,rfl⟩) (C3 _)) (A4 (U8 (EX:=E) OTM (by rfl) rfl (A0 (Pa (L8 (v:=vN 12) (by rfl) mMR ⟨_,rfl⟩)) A1) (fun _ _ _ _ _ _ _ I hx hE=>R3 I hx hE))) C1)
   (A2 (Jy (pv 0) (B0 K6 (Q0 (K:=K) rfl (pv 0) rfl) (E5 (A0 (pv 1) A1))) rfl)
   (A4 (A9 B9))))),?_⟩
  refine ⟨_,rfl,r,_,_,_,rfl,rfl,SqT.of hr0,A6 (j:=2) (v:=vN y) rfl,y,0,rfl,rfl,_,rfl,?_⟩
  rw [decide_eq_false y0]
  refine E7 ?_
  refine ⟨_,rfl,d,CD,dx,_,_,rfl,hd,T.cl,T.nR,rfl,rl,_,rfl,.inl (SqL.of hrl),xs.length,12,rfl,rfl,_,rfl,E8 (fun hc=>?_) (fun hc=>?_)⟩
  ·exact ⟨_,rfl,by decide,fun x=>⟨(by show 1<=sizeLine; decide),qe (Zj_ hc) H (Same.refl _)⟩⟩
  have lt:xs.length < 12:=Nat.lt_of_not_le fun z=>hc (Zr_ z)
  refine ⟨_,rfl,d,CD,dx,_,_,rfl,hd,T.cl,T.nR,rfl,_,rfl,(by show 1<=sizeLine; decide),fun l1 hl1=>?_⟩
  have s1:=Same.new (o:=.lst [V.ref r]) hl1
  have h1:(upd H l1 (.lst [V.ref r])) l1=some (.lst [V.ref r]):=A3
  have hd1:=s1 _ _ hd
  have hrl1:=s1 _ _ hrl
  generalize upd H l1 (.lst [V.ref r])=H1 at s1 h1 hd1 hrl1
  refine ⟨rl,l1,xs,[V.ref r],rfl,rfl,hrl1,h1,Nat.le_of_lt (D0 (by show _ + 1<=1000; omega)),fun l2 hl2=>?_⟩
  have s2:=Same.new (o:=.lst (xs++[V.ref r])) hl2
  have h2:(upd H1 l2 (.lst (xs++[V.ref r]))) l2=some (.lst (xs++[V.ref r])):=A3
  have hd2:=s2 _ _ hd1
  have n2:H l2=none:=s1.none hl2
  replace s2:=s1.trans s2
  generalize upd H1 l2 (.lst (xs++[V.ref r]))=H2 at s2 h2 hd2
  have l2d:l2≠d:=(C7 hd n2).symm
  refine ⟨_,rfl,d,CD,dx,_,rfl,hd2,T.cl,T.nR,(by show 2 < 1000; decide),?_⟩
  refine qq lt l2 _ (fun b o e hb=>?_) n2 ⟨dx,A3⟩ ?_
  ·rw [C6 hb]; exact s2 _ _ e
  ·rw [C6 l2d]; exact h2
noncomputable abbrev An:Stmt:=Ek (top 81) 3
theorem scDDrop:FnScope ["self","word","numbers","at"] ["self","word"] (A7 An):=⟨rfl,rfl,rfl,by decide +kernel,rfl,by decide +kernel,by decide +kernel⟩
theorem Xr {f CD:Addr} {fd:FuncData} (F:Fun K "drop" "Desk.drop" An f fd) (T:DK K CD) (zlen:mg "len" = none) (zrange:mg "range" = none) (zstr:mg "str" = none):FnOk P w K mg base CX0 1 f fd ["self","word"] (Zu K CD):=by
 refine F.ok scDDrop (fun vs H Q E h=>?_) (fun cdv A outer s H vs Q E hr h=>?_)
 ·obtain ⟨d,np,rl,A,B,v,rfl,_⟩:=h
  rfl
 ·obtain ⟨d,np,rl,LA,LB,v,rfl,hD,hrl,l12,q⟩:=h
  have nd:=scDDrop.nd
  obtain ⟨dx,hd⟩:=hD
  have el:(LA++v :: LB).length=LA.length + LB.length + 1:=by rw [Zv_,ZA]; omega
  refine ⟨_,(A2 (S8 (i:=2) (xs:=["number"]) (cs ["self","word","numbers","at"] (A7 An) rfl rfl (by decide +kernel)) rfl nd rfl rfl (N5 rfl zrange (A0 (D2 (D9 (K:=K) rfl) (by rfl) zlen PySem.boot_len (A0 (Q0 (K:=K) rfl (pv 0) rfl) A1)) A1)) (fun _ _ _=>C5 (i:=0) (show (["number","self","word","numbers","at"]:List Str).Nodup by decide +kernel) rfl (Or.inl rfl)) (fun _ _ _=>K5) (fun _ _ _=>(O8 V1 (by rfl) zstr PyProof.Rows.boot_str (A0 (pv 0) A1))))
   (A2 (D1 (B1 Bl (pv 1) (pv 2) (by rfl)) (A4 M8) C1)
   (A2 (C0 (i:=3) nd rfl (Or.inl rfl) (Yi (K:=K) rfl PySem.F.plainAttrs_list PySem.F.slot_list_index PySem.F.type_list_index (Ig (K:=K) rfl) (pv 2) (A0 (pv 1) A1)))
   (A2 (Jy (pv 0) (B0 K6 (J3 M5 (Q0 (K:=K) rfl (pv 0) rfl) M4 (K9 (pv 3))) (J3 M5 (Q0 (K:=K) rfl (pv 0) rfl) (K9 (B0 F9 (pv 3) A5)) M4)) rfl)
   (A4 (A9 B9)))))),?_⟩
  refine ⟨_,rfl,d,CD,dx,_,_,rfl,hd,T.cl,T.nR,rfl,rl,_,rfl,.inl (SqL.of hrl),_,rfl,(by omega),(by omega),U3 (k:=(LA++v :: LB).length) (n:=1) (fun i acc H'=>H' = H/\acc=((List.range i).map Q3).map V.str) (by omega) ⟨rfl,rfl⟩ (fun i acc H' hi h=>?_) (fun i acc H' hi h=>?_) (fun acc H' h=>?_)⟩
  ·obtain ⟨rfl,rfl⟩:=h
   rw [Θl,Θl,List.length_range]; exact Zd_ _
  ·obtain ⟨rfl,rfl⟩:=h
   refine ⟨rfl,_,rfl,_,rfl,?_,rfl,?_⟩
   ·show Nat.log2 i < 1920
    exact Nat.lt_of_le_of_lt (Nat.log2_le_self _) (by omega)
   ·rw [List.range_succ,Zw_,Zw_]; rfl
  obtain ⟨rfl,rfl⟩:=h
  intro l2 hl2
  have s2:=Same.new (o:=.lst (((List.range (LA++v :: LB).length).map Q3).map V.str)) hl2
  have h2:(upd H' l2 (.lst (((List.range (LA++v :: LB).length).map Q3).map V.str))) l2=some (.lst (((List.range (LA++v :: LB).length).map Q3).map V.str)):=A3
  generalize upd H' l2 (.lst (((List.range (LA++v :: LB).length).map Q3).map V.str))=H2 at s2 h2
  have hk:LA.length < ((List.range (LA++v :: LB).length).map Q3).length:=by rw [Θl,List.length_range]; omega
  have ek:((List.range (LA++v :: LB).length).map Q3)[LA.length]? = some (Q3 LA.length):=by rw [Θg,List.getElem?_range (by omega)]; rfl
  refine ⟨_,rfl,_,rfl,l2,_,rfl,.inl (SqL.of h2),rfl,Fq _,_,rfl,?_⟩
  rw [if_pos rfl,El,Zr_ (Θe ek)]
  refine E7 ?_
  refine ⟨_,rfl,.inl ⟨rfl,_,SqL.of h2⟩,_,rfl,l2,(List.range (LA++v :: LB).length).map Q3,LA.length,rfl,SqL.of h2,by rw [Θl,List.length_range]; omega,Abb _ l12,hk,by rw [Zu_,ek]; rfl,?_⟩
  have hd2:=s2 _ _ hd
  have hrl2:=s2 _ _ hrl
  refine ⟨_,rfl,d,CD,dx,_,_,rfl,hd2,T.cl,T.nR,rfl,_,rfl,(LA.length:Int),rfl,rl,_,rfl,SqL.of hrl2,fun p hp=>?_⟩
  rw [Vs]
  have s3:=Same.new (o:=.lst LA) hp
  have h3:(upd H2 p (.lst LA)) p=some (.lst LA):=A3
  have hd3:=s3 _ _ hd2
  have hrl3:=s3 _ _ hrl2
  replace s3:=s2.trans s3
  generalize upd H2 p (.lst LA)=H3 at s3 h3 hd3 hrl3
  refine ⟨_,rfl,d,CD,dx,_,_,rfl,hd3,T.cl,T.nR,rfl,_,rfl,LA.length,1,rfl,rfl,((LA.length + 1:Nat):Int),rfl,rl,_,rfl,SqL.of hrl3,fun p2 hp2=>?_⟩
  rw [Ho]
  have s4:=Same.new (o:=.lst LB) hp2
  have h4:(upd H3 p2 (.lst LB)) p2=some (.lst LB):=A3
  have h34:=s4 _ _ h3
  have hd4:=s4 _ _ hd3
  replace s4:=s3.trans s4
  generalize upd H3 p2 (.lst LB)=H4 at s4 h4 h34 hd4
  refine ⟨p,p2,LA,LB,rfl,rfl,h34,h4,Nat.le_of_lt (D0 (by omega)),fun l5 hl5=>?_⟩
  have s5:=Same.new (o:=.lst (LA++LB)) hl5
  have h5:(upd H4 l5 (.lst (LA++LB))) l5=some (.lst (LA++LB)):=A3
  have hd5:=s5 _ _ hd4
  have n5:H' l5=none:=s4.none hl5
  replace s5:=s4.trans s5
  generalize upd H4 l5 (.lst (LA++LB))=H5 at s5 h5 hd5
  have l5d:l5≠d:=(C7 hd n5).symm
  refine ⟨_,rfl,d,CD,dx,_,rfl,hd5,T.cl,T.nR,(by show 2 < 1000; decide),?_⟩
  refine q l5 _ (fun b o e hb=>?_) n5 ⟨dx,A3⟩ ?_
  ·rw [C6 hb]; exact s5 _ _ e
  ·rw [C6 l5d]; exact h5
end
end Own
namespace Own
open PySem L2
section
variable {P:Program} {w:World} {K:Θf} {mg:Str->Option Value} {base:Heap}
seal PySem.wpAny
noncomputable abbrev Bs:Stmt:=top 73
theorem scHasForm:FnScope ["words","form"] ["words","form"] (A7 Bs):=⟨rfl,rfl,rfl,by decide +kernel,rfl,by decide +kernel,by decide +kernel⟩
theorem Os {f:Addr} {fd:FuncData} (F:Fun K "has_form" "has_form" Bs f fd) (zlen:mg "len" = none) (zzip:mg "zip" = none) (zall:mg "all" = none):FnOk P w K mg base CX0 1 f fd ["words","form"] (Iu K):=by
 refine F.ok scHasForm (fun vs H Q E h=>?_) (fun cdv A outer s H vs Q E hr h=>?_)
 ·obtain ⟨wp,fp,ws,fs,rfl,_⟩:=h
  rfl
 ·obtain ⟨wp,fp,ws,fs,rfl,hw,hf,lw,lf,q⟩:=h
  have nd:=scHasForm.nd
  have mw:(ws.map V.str).length=ws.length:=Θl ..
  have mf:(fs.map V.str).length=fs.length:=Θl ..
  refine ⟨_,(A2 (D1 (B1 X3 (D2 (D9 (K:=K) rfl) (by rfl) zlen PySem.boot_len (A0 (pv 0) A1)) (D2 (D9 (K:=K) rfl) (by rfl) zlen PySem.boot_len (A0 (pv 1) A1)) (C3 _)) (A4 (A9 Q7)) C1)
   (A4 (A9 (D2 (Cn (K:=K) rfl rfl) (by rfl) zall PyProof.Rows.boot_all (A0 (K0 (xs:=["place","word"]) (cs ["words","form"] (A7 Bs) rfl rfl (by decide +kernel)) rfl (Es (K:=K) rfl (by rfl) zzip (A0 (pv 1) (A0 (pv 0) A1))) (fun _ _ _=>Er (K:=K) (n:=2) rfl rfl (E1 (C5 (i:=0) (show (["place","word","words","form"]:List Str).Nodup by decide +kernel) rfl (Or.inl rfl)) (E1 (C5 (i:=1) (show (["place","word","words","form"]:List Str).Nodup by decide +kernel) rfl (Or.inl rfl)) N4)) rfl rfl) (fun _ _ _=>K5) (fun _ _ _=>(Af6 (P3 (Ju (K:=K) rfl) (pv 0) (F2 (A0 B9 (A0 B9 A1))) (by rfl)) (Pb (P3 op_eq (pv 0) (pv 1) (C3 _)))))) A1))))),?_⟩
  refine ⟨_,rfl,wp,_,rfl,.inl hw,_,rfl,fp,_,rfl,.inr hf,(ws.map V.str).length,(fs.map V.str).length,rfl,rfl,_,rfl,?_⟩
  rw [mw,mf]
  refine E8 (fun hc=>?_) (fun hc=>?_)
  ·have ne:¬ws.length=fs.length:=by simpa using hc
   have e:Cp ws fs=false:=by unfold Cp; rw [decide_eq_false ne]; rfl
   have:=q H (Same.refl _)
   rw [e] at this
   exact this
  have le:ws.length=fs.length:=by simpa using hc
  refine ⟨_,rfl,_,rfl,fp,wp,_,_,rfl,hf,hw,En (K:=K) (xs:=fs.map V.str) (ys:=ws.map V.str) (n:=2) (fun j acc H'=>Same H H'/\acc=(((fs.zip ws).take j).map fun p=>Fp p.1 p.2).map V.bl) (by omega) (by omega) ⟨Same.refl _,rfl⟩ (fun j acc H' hj h=>?_) (fun j x y acc H' t hx hy h ht=>?_) (fun acc H' h=>?_)⟩
  ·obtain ⟨s4,rfl⟩:=h
   exact ⟨⟨s4.tupS hf,s4.seq hw⟩,by rw [Θl,Θl]; exact List.length_take_le _ _⟩
  ·obtain ⟨s4,rfl⟩:=h
   rw [Θg] at hx hy
   cases e1:fs[j]? with
   | none=>rw [e1] at hx; cases hx
   | some x'=>
    cases e2:ws[j]? with
    | none=>rw [e2] at hy; cases hy
    | some y'=>
     rw [e1] at hx
     rw [e2] at hy
     obtain rfl:=(Θo hx).symm
     obtain rfl:=(Θo hy).symm
     have s5:=s4.trans (Same.new (o:=.tup [V.str x',V.str y']) ht)
     refine ⟨t,_,rfl,SqT.of A3,rfl,_,_,rfl,_,_,rfl,rfl,rfl,?_⟩
     generalize upd H' t (.tup [V.str x',V.str y'])=H5 at s5
     have ez:(fs.zip ws)[j]? = some (x',y'):=by rw [List.getElem?_zip_eq_some]; exact ⟨e1,e2⟩
     have fin:∀(H6:Hp),Same H H6->Same H H6/\((((fs.zip ws).take j).map fun p=>Fp p.1 p.2).map V.bl)++[V.bl (Fp x' y')]=(((fs.zip ws).take (j + 1)).map fun p=>Fp p.1 p.2).map V.bl:=fun H6 s6=>⟨s6,by rw [List.take_succ,ez,Zw_,Zw_]; rfl⟩
     refine ⟨_,rfl,(by show 2<=sizeLine; decide),fun p hp=>?_⟩
     have s6:=s5.trans (Same.new (o:=.tup [V.str J4,V.str Fw]) hp)
     refine ⟨p,_,rfl,.inr (SqT.of A3),rfl,rfl,_,rfl,?_⟩
     rw [if_neg Zf_]
     show if inV (.str x') [V.str J4,V.str Fw]=true then _ else _
     rw [Aa6]
     refine E8 (fun hc2=>?_) (fun hc2=>?_)
     ·have e:Fp x' y' = true:=by unfold Fp; rw [hc2]; rfl
      have:=fin _ s6
      rw [e] at this
      exact this
     ·have e:Fp x' y' = decide (x' = y'):=by unfold Fp; rw [Bool.eq_false_iff.mpr hc2]; rfl
      refine ⟨_,rfl,_,rfl,rfl,?_⟩
      have:=fin _ s6
      rw [e] at this
      have e3:decide (V.str x' = V.str y')=decide (x' = y'):=decide_eq_decide.mpr ⟨fun e=>by injection e,fun e=>by rw [e]⟩
      show _/\_
      rw [e3]
      exact this
  obtain ⟨s4,rfl⟩:=h
  intro l2 hl2
  refine ⟨l2,((fs.zip ws).take (fs.map V.str).length).map fun p=>Fp p.1 p.2,rfl,SqL.of A3,?_⟩
  have e:(((fs.zip ws).take (fs.map V.str).length).map fun p=>Fp p.1 p.2).all id=Cp ws fs:=by
   rw [List.take_of_length_le (by rw [mf,List.length_zip]; omega),List.all_map]
   unfold Cp
   rw [Zr_ le]
   rfl
  rw [e]
  exact q _ (s4.trans (Same.new hl2))
noncomputable abbrev Kg:Stmt:=top 74
theorem scFormOf:FnScope ["words","form"] ["words"] (A7 Kg):=⟨rfl,rfl,rfl,by decide +kernel,rfl,by decide +kernel,by decide +kernel⟩
theorem Tz {f fHF FA:Addr} {fas:List Addr} {fd fdHF:FuncData} (F:Fun K "form_of" "form_of" Kg f fd) (GHF:FnOk P w K mg base CX0 1 fHF fdHF ["words","form"] (Iu K)) (mHF:mg "has_form" = some (.ref fHF)) (kHF:Θk K fHF) (bHF:Binds K fdHF ["words","form"] []) (mFM:mg "FORMS" = some (.ref FA)) (hFM:FMT K FA fas):FnOk P w K mg base CX0 2 f fd ["words"] (Ca K fas):=by
 refine F.ok scFormOf (fun vs H Q E h=>?_) (fun cdv A outer s H vs Q E hr h=>?_)
 ·obtain ⟨wp,fa,ws,fs,k,rfl,_⟩:=h
  rfl
 ·obtain ⟨wp,fa,ws,fs,k,rfl,hw,lw,ea,ef,fit,bef,q⟩:=h
  have nd:=scFormOf.nd
  have hr1:Room 1 _:=hr.mono (by decide)
  refine ⟨_,(A2 (K7 PassesOwn.never rfl (Ab4 (K:=K) rfl (L8 (v:=.ref FA) (by rfl) mFM rfl)) (C5 (i:=1) nd rfl (Or.inl rfl)) (A4 (D1 (K8 (A8 GHF hr1 rfl mHF kHF bHF .nil B2 (A0 (pv 0) (A0 (pv 1) A1)))) (A4 (A9 (pv 1))) C1)))
   (A4 M8)),?_⟩
  have kl:k < 12:=by rw [<-U1]; exact (Ze_.mp ef).1
  have ml:(fas.map V.ref).length=12:=by rw [Θl,hFM.len]
  refine ⟨FA,rfl,⟨_,hFM.all _⟩,Aa4 (xs:=fas.map V.ref) (fun i σ H'=>(∃v1,σ=[some (.ref wp),v1])/\Same H H'/\i<=k) ⟨⟨_,rfl⟩,Same.refl _,Zp_ _⟩ (fun i σ H' _ h=>hFM.all _) ?_ ?_⟩
  ·rintro i v σ H1 hv ⟨⟨v1,rfl⟩,s1,hi⟩
   rw [Θg] at hv
   cases ei:fas[i]? with
   | none=>rw [ei] at hv; cases hv
   | some g=>
    rw [ei] at hv
    obtain rfl:=(Θo hv).symm
    have il:i < formsL.length:=by rw [U1]; omega
    have eg:=Θh il
    refine ⟨_,rfl,_,rfl,wp,g,ws,_,rfl,s1.seq hw,hFM.one i g _ ei eg H1,lw,Lr eg,fun H2 s2=>⟨_,rfl,E8 (fun hc=>?_) (fun hc=>?_)⟩⟩
    ·have ik:i=k:=by
      rcases Nat.lt_or_ge i k with lt | ge
      ·rw [bef i _ lt eg] at hc; cases hc
      ·omega
     subst ik
     rw [ea] at ei
     cases ei
     exact ⟨_,rfl,q _ (s1.trans s2)⟩
    ·refine ⟨⟨_,rfl⟩,s1.trans s2,?_⟩
     rcases Nat.lt_or_ge i k with lt | ge
     ·exact lt
     ·obtain rfl:i=k:=by omega
      rw [ef] at eg
      cases eg
      exact absurd fit hc
  ·rintro σ H1 ⟨_,_,hk⟩
   rw [ml] at hk
   exact absurd kl (by omega)
end
end Own
namespace Own
open PySem L2
section
variable {P:Program} {w:World} {K:Θf} {mg:Str->Option Value} {base:Heap}
seal PySem.wpAny
noncomputable abbrev Ke:Stmt:=top 8
theorem scCanUse:FnScope ["rule","block","taken"] ["rule","block"] (A7 Ke):=⟨rfl,rfl,rfl,by decide +kernel,rfl,by decide +kernel,by decide +kernel⟩
theorem Tx {f:Addr} {fd:FuncData} (F:Fun K "can_use" "can_use" Ke f fd):FnOk P w K mg base CX0 1 f fd ["rule","block"] Gu:=by
 refine F.ok scCanUse (fun vs H Q E h=>?_) (fun cdv A outer s H vs Q E hr h=>?_)
 ·obtain ⟨r,st,x,y,b,rfl,_⟩:=h
  rfl
 ·obtain ⟨r,st,x,y,b,rfl,hR,q⟩:=h
  have nd:=scCanUse.nd
  refine ⟨_,(A2 (D1 (B1 X3 (B0 O4 (C4 (C2 (K:=K) rfl) (pv 0) A5 (fun _ _=>rfl)) (pv 1)) A5 (C3 _)) (A4 (A9 Q7)) C1)
   (A2 (C0 (i:=2) nd rfl (Or.inl rfl) (B0 O4 (C4 (C2 (K:=K) rfl) (pv 0) A5 (fun _ _=>rfl)) (pv 1)))
   (A2 (D1 (B1 op_eq (C4 (C2 (K:=K) rfl) (pv 0) A5 (fun _ _=>rfl)) B9 (C3 _)) (A4 (A9 (P3 X3 (pv 2) A5 (C3 _)))) C1)
   (A4 (A9 (Yh (P3 X3 (pv 2) A5 (C3 _)) (Pb (P3 X3 (pv 2) (pv 1) (C3 _))))))))),?_⟩
  refine ⟨_,rfl,r,_,_,_,rfl,rfl,SqT.of hR,A6 (j:=1) rfl,_,rfl,x,b,rfl,rfl,x&&&b,0,rfl,rfl,_,rfl,?_⟩
  cases c1:decide (x&&&b=0) with
  | false=>
   refine N9 ?_
   have:G9 st x y b=false:=by unfold G9; rw [c1]; rfl
   rw [this] at q
   exact q
  | true=>
   refine E7 ?_
   refine ⟨_,rfl,r,_,_,_,rfl,rfl,SqT.of hR,A6 (j:=2) rfl,_,rfl,y,b,rfl,rfl,?_⟩
   refine ⟨_,rfl,r,_,_,_,rfl,rfl,SqT.of hR,A6 (j:=0) rfl,rfl,_,rfl,?_⟩
   cases st with
   | true=>
    refine N9 ?_
    have:G9 true x y b = !decide (y&&&b=0):=by unfold G9; rw [c1]; simp
    rw [this] at q
    exact ⟨_,rfl,y&&&b,0,rfl,rfl,q⟩
   | false=>
    refine E8 (fun hc=>?_) (fun _=>?_)
    ·exact absurd (Zj_ hc) (by intro z; injection z with z; revert z; decide)
    refine ⟨_,rfl,y&&&b,0,rfl,rfl,_,rfl,?_⟩
    cases c2:decide (y&&&b=0) with
    | true=>
     refine E7 ?_
     have:G9 false x y b=false:=by unfold G9; rw [c1,c2]; rfl
     rw [this] at q
     exact q
    | false=>
     refine N9 ?_
     have:G9 false x y b = !decide (y&&&b=b):=by unfold G9; rw [c1,c2]; simp
     rw [this] at q
     exact ⟨_,rfl,_,rfl,y&&&b,b,rfl,rfl,q⟩
noncomputable abbrev Kk:Stmt:=top 9
theorem Zk:FnScope ["block"] ["block"] (A7 Kk):=⟨rfl,rfl,rfl,by decide +kernel,rfl,by decide +kernel,by decide +kernel⟩
theorem Ub {f:Addr} {fd:FuncData} (F:Fun K "listed" "listed" Kk f fd):FnOk P w K mg base CX0 1 f fd ["block"] Gs:=by
 refine F.ok Zk (fun vs H Q E h=>?_) (fun cdv A outer s H vs Q E hr h=>?_)
 ·obtain ⟨b,rfl,_⟩:=h
  rfl
 ·obtain ⟨b,rfl,q⟩:=h
  refine ⟨_,(A2 (D1 (B1 O1 (pv 0) A5 (C3 _)) (A4 (A9 (E5 A1))) C1)
   (A4 (A9 (E5 (A0 (pv 0) A1))))),?_⟩
  refine ⟨_,rfl,b,0,rfl,rfl,_,rfl,E8 (fun hc=>?_) (fun hc=>?_)⟩
  ·have b0:b=0:=Zj_ hc
   refine ⟨(by show 0<=sizeLine; exact Zp_ _),fun p hp=>?_⟩
   have:=q p hp
   rw [if_neg (by omega)] at this
   exact this
  ·have b0:0 < b:=Nat.pos_of_ne_zero fun z=>hc (Zr_ z)
   refine ⟨_,rfl,(by show 1<=sizeLine; decide),fun p hp=>?_⟩
   have:=q p hp
   rw [if_pos b0] at this
   exact this
noncomputable abbrev Zj:Stmt:=top 10
theorem scUsed:FnScope ["rule","fixed","blocks","at","taken","rest"] ["rule","fixed","blocks","at"] (A7 Zj):=⟨rfl,rfl,rfl,by decide +kernel,rfl,by decide +kernel,by decide +kernel⟩
theorem Abx {f fI:Addr} {fd fdI:FuncData} (F:Fun K "used" "used" Zj f fd) (GI:FnOk P w K mg base CX0 1 fI fdI ["block"] Gs) (mI:mg "listed" = some (.ref fI)) (kI:Θk K fI) (bI:Binds K fdI ["block"] []):FnOk P w K mg base CX0 2 f fd ["rule","fixed","blocks","at"] (Aab K):=by
 refine F.ok scUsed (fun vs H Q E h=>?_) (fun cdv A outer s H vs Q E hr h=>?_)
 ·obtain ⟨r,l,st,x,y,fx,at_,bs,rfl,_⟩:=h
  rfl
 ·obtain ⟨r,l,st,x,y,fx,at_,bs,rfl,hR,hl,hat,hb,hdis,q⟩:=h
  have nd:=scUsed.nd
  refine ⟨_,(A2 (C0 (i:=4) nd rfl (Or.inl rfl) (B0 O4 (C4 (C9 (K:=K) rfl) (pv 2) (pv 3) (fun _ _=>rfl)) (C4 (C2 (K:=K) rfl) (pv 0) A5 (fun _ _=>rfl))))
   (A2 (C0 (i:=5) nd rfl (Or.inl rfl) (B0 P7 (C4 (C9 (K:=K) rfl) (pv 2) (pv 3) (fun _ _=>rfl)) (Ga Av (C4 (C2 (K:=K) rfl) (pv 0) A5 (fun _ _=>rfl)))))
   (A2 (D1 (B1 op_eq (C4 (C2 (K:=K) rfl) (pv 0) A5 (fun _ _=>rfl)) B9 (C3 _)) (A4 (A9 (F2 (A0 (B0 X4 (pv 1) (pv 4)) (A0 (B0 K6 (B0 K6 (J3 M5 (pv 2) M4 (K9 (pv 3))) (A8 GI hr rfl mI kI bI .nil B2 (A0 (pv 5) A1))) (J3 M5 (pv 2) (K9 (B0 F9 (pv 3) A5)) M4)) A1))))) C1)
   (A4 (A9 (F2 (A0 (pv 1) (A0 (B0 K6 (B0 K6 (J3 M5 (pv 2) M4 (K9 (pv 3))) (E5 (A0 (pv 4) (A0 (pv 5) A1)))) (J3 M5 (pv 2) (K9 (B0 F9 (pv 3) A5)) M4)) A1)))))))),?_⟩
  have eb:bs[at_]? = some (bs.getD at_ 0):=by rw [Zu_,Θh hat]; rfl
  have ebv:(bs.map vN)[at_]? = some (vN (bs.getD at_ 0)):=by rw [Θg,eb]; rfl
  refine ⟨_,rfl,_,rfl,l,_,_,_,rfl,rfl,hl,A6 ebv,_,rfl,r,_,_,_,rfl,rfl,SqT.of hR,A6 (j:=2) rfl,bs.getD at_ 0,y,rfl,rfl,?_⟩
  refine ⟨_,rfl,_,rfl,l,_,_,_,rfl,rfl,hl,A6 ebv,_,rfl,r,_,_,_,rfl,rfl,SqT.of hR,A6 (j:=2) rfl,(y:Int),rfl,bs.getD at_ 0,y,rfl,rfl,?_⟩
  refine ⟨_,rfl,r,_,_,_,rfl,rfl,SqT.of hR,A6 (j:=0) rfl,rfl,_,rfl,?_⟩
  have lt:(List.take at_ (bs.map vN)).length<=200:=by rw [ZB,Θl]; omega
  have ld:(List.drop (at_ + 1) (bs.map vN)).length<=200:=by rw [List.length_drop,Θl]; omega
  have szc:∀n:Nat,n<=1000->n<=sizeLine:=fun n h=>Nat.le_of_lt (D0 h)
  have e1:W3 (bs.map vN) none (some (at_:Int))=List.take at_ (bs.map vN):=Fk _ _
  have e2:W3 (bs.map vN) (some ((at_ + 1:Nat):Int)) none=List.drop (at_ + 1) (bs.map vN):=Fj _ _
  cases st with
  | true=>
   refine N9 ?_
   have eo:R5 true y fx bs at_=fx|||inN y bs at_:=by
    unfold R5
    rw [if_pos rfl]
    exact (Fy fx (inN y bs at_) (Q9 hdis (Dk _ y))).symm
   refine ⟨_,rfl,_,rfl,fx,inN y bs at_,rfl,rfl,?_⟩
   refine ⟨_,rfl,_,rfl,(at_:Int),rfl,l,_,rfl,hl,fun p1 hp1=>?_⟩
   rw [e1]
   have s1:=Same.new (o:=.lst (List.take at_ (bs.map vN))) hp1
   refine ⟨_,rfl,R0 y bs at_,rfl,fun p3 hp3=>?_⟩
   have s3:=Same.new (o:=.lst ((if 0 < R0 y bs at_ then [R0 y bs at_] else []).map vN)) hp3
   have l3:((if 0 < R0 y bs at_ then [R0 y bs at_] else []).map vN).length<=1:=by split <;> simp
   refine ⟨p1,p3,List.take at_ (bs.map vN),(if 0 < R0 y bs at_ then [R0 y bs at_] else []).map vN,rfl,rfl,s3 _ _ A3,A3,szc _ (by omega),fun p4 hp4=>?_⟩
   have s4:=Same.new (o:=.lst (List.take at_ (bs.map vN)++(if 0 < R0 y bs at_ then [R0 y bs at_] else []).map vN)) hp4
   have s14:=(s1.trans s3).trans s4
   refine ⟨_,rfl,_,rfl,at_,1,rfl,rfl,((at_ + 1:Nat):Int),rfl,l,_,rfl,s14.seq hl,fun p5 hp5=>?_⟩
   rw [e2]
   have s5:=Same.new (o:=.lst (List.drop (at_ + 1) (bs.map vN))) hp5
   refine ⟨p4,p5,List.take at_ (bs.map vN)++(if 0 < R0 y bs at_ then [R0 y bs at_] else []).map vN,List.drop (at_ + 1) (bs.map vN),rfl,rfl,s5 _ _ A3,A3,szc _ (by rw [Zv_]; omega),fun p6 hp6=>?_⟩
   have e6:List.take at_ (bs.map vN)++(if 0 < R0 y bs at_ then [R0 y bs at_] else []).map vN++List.drop (at_ + 1) (bs.map vN)=(F8 true y bs at_).map vN:=by
    unfold F8
    rw [if_pos rfl,Zw_,Zw_,List.map_take,List.map_drop]
   rw [e6]
   have s6:=Same.new (o:=.lst ((F8 true y bs at_).map vN)) hp6
   refine ⟨(by show 2<=sizeLine; decide),fun t ht=>?_⟩
   have s7:=Same.new (o:=.tup [vN (fx|||inN y bs at_),V.ref p6]) ht
   have s16:=(s14.trans s5).trans s6
   exact q t p6 _ (s16.trans s7) (s16.none ht) (by rw [eo]; exact A3) ((s14.trans s5).none hp6) (s7 _ _ A3)
  | false=>
   refine E8 (fun hc=>?_) (fun _=>?_)
   ·exact absurd (Zj_ hc) (by intro z; injection z with z; revert z; decide)
   refine ⟨_,rfl,?_⟩
   refine ⟨_,rfl,_,rfl,(at_:Int),rfl,l,_,rfl,hl,fun p1 hp1=>?_⟩
   rw [e1]
   have s1:=Same.new (o:=.lst (List.take at_ (bs.map vN))) hp1
   refine ⟨_,rfl,_,rfl,(by show 2<=sizeLine; decide),fun p3 hp3=>?_⟩
   have s3:=Same.new (o:=.lst [vN (inN y bs at_),vN (R0 y bs at_)]) hp3
   refine ⟨p1,p3,List.take at_ (bs.map vN),[vN (inN y bs at_),vN (R0 y bs at_)],rfl,rfl,s3 _ _ A3,A3,szc _ (by show _ + 2<=1000; omega),fun p4 hp4=>?_⟩
   have s4:=Same.new (o:=.lst (List.take at_ (bs.map vN)++[vN (inN y bs at_),vN (R0 y bs at_)])) hp4
   have s14:=(s1.trans s3).trans s4
   refine ⟨_,rfl,_,rfl,at_,1,rfl,rfl,((at_ + 1:Nat):Int),rfl,l,_,rfl,s14.seq hl,fun p5 hp5=>?_⟩
   rw [e2]
   have s5:=Same.new (o:=.lst (List.drop (at_ + 1) (bs.map vN))) hp5
   refine ⟨p4,p5,List.take at_ (bs.map vN)++[vN (inN y bs at_),vN (R0 y bs at_)],List.drop (at_ + 1) (bs.map vN),rfl,rfl,s5 _ _ A3,A3,szc _ (by rw [Zv_]; show _ + 2 + _<=1000; omega),fun p6 hp6=>?_⟩
   have e6:List.take at_ (bs.map vN)++[vN (inN y bs at_),vN (R0 y bs at_)]++List.drop (at_ + 1) (bs.map vN)=(F8 false y bs at_).map vN:=by
    unfold F8
    rw [if_neg Zf_,Zw_,Zw_,List.map_take,List.map_drop]
    rfl
   rw [e6]
   have s6:=Same.new (o:=.lst ((F8 false y bs at_).map vN)) hp6
   refine ⟨(by show 2<=sizeLine; decide),fun t ht=>?_⟩
   have s7:=Same.new (o:=.tup [vN fx,V.ref p6]) ht
   have s16:=(s14.trans s5).trans s6
   exact q t p6 _ (s16.trans s7) (s16.none ht) A3 ((s14.trans s5).none hp6) (s7 _ _ A3)
noncomputable abbrev Pe:Stmt:=top 11
theorem Acd:FnScope ["many","some"] ["many","some"] (A7 Pe):=⟨rfl,rfl,rfl,by decide +kernel,rfl,by decide +kernel,by decide +kernel⟩
theorem Xo {f fI fAL:Addr} {fd fdI fdAL:FuncData} (F:Fun K "begun" "begun" Pe f fd) (GI:FnOk P w K mg base CX0 1 fI fdI ["block"] Gs) (mI:mg "listed" = some (.ref fI)) (kI:Θk K fI) (bI:Binds K fdI ["block"] []) (GAL:FnOk P w K mg base CX0 1 fAL fdAL ["many"] Bx) (mAL:mg "all_of" = some (.ref fAL)) (kAL:Θk K fAL) (bAL:Binds K fdAL ["many"] []):FnOk P w K mg base CX0 2 f fd ["many","some"] (Rp K):=by
 refine F.ok Acd (fun vs H Q E h=>?_) (fun cdv A outer s H vs Q E hr h=>?_)
 ·obtain ⟨m,x,rfl,_⟩:=h
  rfl
 ·obtain ⟨m,x,rfl,m7,hx,q⟩:=h
  have hr1:Room 1 _:=hr.mono (by decide)
  refine ⟨_,(A4 (A9 (F2 (A0 (pv 1) (A0 (A8 GI hr1 rfl mI kI bI .nil B2 (A0 (B0 P7 (A8 GAL hr1 rfl mAL kAL bAL .nil B2 (A0 (pv 0) A1)) (Ga Av (pv 1))) A1)) A1))))),?_⟩
  refine ⟨_,rfl,_,rfl,m,rfl,by omega,_,rfl,(x:Int),rfl,2 ^ m - 1,x,rfl,rfl,2 ^ m - 1 - ((2 ^ m - 1)&&&x),rfl,fun p hp=>?_⟩
  have ea:(2 ^ m - 1)&&&x=x:=by rw [Nat.and_comm,Nat.and_two_pow_sub_one_eq_mod,Nat.mod_eq_of_lt hx]
  have e:(if 0 < 2 ^ m - 1 - ((2 ^ m - 1)&&&x) then [2 ^ m - 1 - ((2 ^ m - 1)&&&x)] else [])=E6 m x:=by
   rw [ea]
   unfold E6
   by_cases h:x < 2 ^ m - 1
   ·rw [if_pos h,if_pos (by omega)]
   ·rw [if_neg h,if_neg (by omega)]
  rw [e]
  have s1:=Same.new (o:=.lst ((E6 m x).map vN)) hp
  refine ⟨(by show 2<=sizeLine; decide),fun t ht=>?_⟩
  have s2:=Same.new (o:=.tup [vN x,V.ref p]) ht
  exact q t p _ (s1.trans s2) (s1.none ht) A3 hp (s2 _ _ A3)
noncomputable abbrev Pi:Stmt:=top 12
theorem scFirst:FnScope ["rules","blocks","number","rule","at","block"] ["rules","blocks"] (A7 Pi):=⟨rfl,rfl,rfl,by decide +kernel,rfl,by decide +kernel,by decide +kernel⟩
theorem Xt {f fCU:Addr} {fd fdCU:FuncData} (F:Fun K "first_use" "first_use" Pi f fd) (GCU:FnOk P w K mg base CX0 1 fCU fdCU ["rule","block"] Gu) (mCU:mg "can_use" = some (.ref fCU)) (kCU:Θk K fCU) (bCU:Binds K fdCU ["rule","block"] []) (zenumerate:mg "enumerate" = none):FnOk P w K mg base CX0 2 f fd ["rules","blocks"] (Gr K):=by
 refine F.ok scFirst (fun vs H Q E h=>?_) (fun cdv A outer s H vs Q E hr h=>?_)
 ·obtain ⟨rl,bl,rs,bs,m,rfl,_⟩:=h
  rfl
 ·obtain ⟨rl,bl,rs,bs,m,rfl,hrl,hRs,hbl,lr,lb,qn,qs⟩:=h
  have nd:=scFirst.nd
  have hr:Room 1 _:=hr.mono (by decide)
  have lrm:(rs.map fun r=>V.ref r.r).length=rs.length:=Θl ..
  have lbm:(bs.map vN).length=bs.length:=Θl ..
  refine ⟨_,(A2 (K7 PassesOwn.never rfl (Bn (K:=K) rfl rfl zenumerate (A0 (pv 0) A1)) (T6 rfl (E1 (C5 (i:=2) nd rfl (Or.inl rfl)) (E1 (C5 (i:=3) nd rfl (Or.inl rfl)) N4))) (A4 (K7 PassesOwn.never rfl (Bn (K:=K) rfl rfl zenumerate (A0 (pv 1) A1)) (T6 rfl (E1 (C5 (i:=4) nd rfl (Or.inl rfl)) (E1 (C5 (i:=5) nd rfl (Or.inl rfl)) N4))) (A4 (D1 (K8 (A8 GCU hr rfl mCU kCU bCU .nil B2 (A0 (pv 3) (A0 (pv 5) A1)))) (A4 (A9 (F2 (A0 (pv 2) (A0 (pv 4) A1))))) C1)))))
   (A4 (A9 F5))),?_⟩
  refine ⟨_,rfl,rl,_,rfl,hrl,W6 (xs:=rs.map fun r=>V.ref r.r) (fun i σ H'=>(∃v2 v3 v4 v5,σ=[some (.ref rl),some (.ref bl),v2,v3,v4,v5])/\Same H H'/\L5 (rs.map Rl.d) bs i=[]) ⟨⟨none,none,none,none,rfl⟩,Same.refl _,rfl⟩ (fun i σ H' _ h=>h.2.1.seq hrl) ?_ ?_⟩
  ·rintro i v σ H0 t0 hv ⟨⟨v2,v3,v4,v5,rfl⟩,s0,u0⟩ ht0
   rw [Θg] at hv
   cases er:rs[i]? with
   | none=>rw [er] at hv; cases hv
   | some r=>
    rw [er] at hv
    obtain rfl:=(Θo hv).symm
    have hi:i < rs.length:=(Ze_.mp er).1
    have hrm:=Θe er
    have s1:=s0.trans (Same.new (o:=.tup [.int (i:Int),V.ref r.r]) ht0)
    refine ⟨t0,_,rfl,SqT.of A3,rfl,_,_,rfl,_,_,rfl,rfl,?_⟩
    generalize upd H0 t0 (.tup [.int (i:Int),V.ref r.r])=H1 at s1
    refine ⟨_,rfl,bl,_,rfl,s1.seq hbl,W6 (xs:=bs.map vN) (fun j σ H'=>(∃v4 v5,σ=[some (.ref rl),some (.ref bl),some (vN i),some (.ref r.r),v4,v5])/\Same H H'/\W2 r.d i bs j=[]) ⟨⟨_,_,rfl⟩,s1,rfl⟩ (fun j σ H' _ h=>h.2.1.seq hbl) ?_ ?_⟩
    ·rintro j v σ H2 t2 hv' ⟨⟨v4',v5',rfl⟩,s2,u2⟩ ht2
     rw [Θg] at hv'
     cases eb:bs[j]? with
     | none=>rw [eb] at hv'; cases hv'
     | some b=>
      rw [eb] at hv'
      obtain rfl:=(Θo hv').symm
      have hj:j < bs.length:=(Ze_.mp eb).1
      have ebd:bs.getD j 0=b:=by rw [Zu_,eb]; rfl
      have s3:=s2.trans (Same.new (o:=.tup [.int (j:Int),vN b]) ht2)
      refine ⟨t2,_,rfl,SqT.of A3,rfl,_,_,rfl,_,_,rfl,rfl,?_⟩
      generalize upd H2 t2 (.tup [.int (j:Int),vN b])=H3 at s3
      refine ⟨_,rfl,_,rfl,r.r,r.st,r.x,r.y,b,rfl,s3 _ _ (hRs r hrm).1,_,rfl,E8 (fun hu=>?_) (fun hu=>?_)⟩
      ·obtain ⟨us,eu⟩:=Qg (n:=rs.length) u0 (by rw [Rf er]; exact u2) hi hj (by rw [Rf er,ebd]; exact hu)
       refine ⟨_,rfl,_,rfl,(by show 2<=sizeLine; decide),fun t ht=>?_⟩
       exact qs (i,j) us t _ (s3.trans (Same.new ht)) eu (s3.none ht) A3
      ·refine ⟨⟨_,_,rfl⟩,s3,?_⟩
       rw [Ax,u2,ebd,if_neg (show ¬usB r.d b=true from hu)]; rfl
    ·rintro σ H2 ⟨⟨v4',v5',rfl⟩,s2,u2⟩
     rw [lbm] at u2
     refine ⟨⟨_,_,_,_,rfl⟩,s2,?_⟩
     rw [Aw,u0,Rf er,u2]; rfl
  ·rintro σ H' ⟨⟨v2,v3,v4,v5,rfl⟩,s',u'⟩
   rw [lrm] at u'
   exact qn H' s' u'
noncomputable abbrev Aez:Stmt:=top 13
theorem scUnf:FnScope ["many","rules","some","now","steps","use"] ["many","rules","some"] (A7 Aez):=⟨rfl,rfl,rfl,by decide +kernel,rfl,by decide +kernel,by decide +kernel⟩
theorem Aea {f fBG fFU fUD:Addr} {fd fdBG fdFU fdUD:FuncData} (F:Fun K "unfolded" "unfolded" Aez f fd) (GBG:FnOk P w K mg base CX0 2 fBG fdBG ["many","some"] (Rp K)) (mBG:mg "begun" = some (.ref fBG)) (kBG:Θk K fBG) (bBG:Binds K fdBG ["many","some"] []) (GFU:FnOk P w K mg base CX0 2 fFU fdFU ["rules","blocks"] (Gr K)) (mFU:mg "first_use" = some (.ref fFU)) (kFU:Θk K fFU) (bFU:Binds K fdFU ["rules","blocks"] []) (GUD:FnOk P w K mg base CX0 2 fUD fdUD ["rule","fixed","blocks","at"] (Aab K)) (mUD:mg "used" = some (.ref fUD)) (kUD:Θk K fUD) (bUD:Binds K fdUD ["rule","fixed","blocks","at"] []):FnOk P w K mg base CX0 3 f fd ["many","rules","some"] (S3 K):=by
 refine F.ok scUnf (fun vs H Q E h=>?_) (fun cdv A outer s H vs Q E hr h=>?_)
 ·obtain ⟨m,x,rl,rs,rfl,_⟩:=h
  rfl
 ·obtain ⟨m,x,rl,rs,rfl,m7,hx,hrl,hRs,lr,qq⟩:=h
  have nd:=scUnf.nd
  have hr2:Room 2 _:=hr.mono (by decide)
  refine ⟨_,(A2 (C0 (i:=3) nd rfl (Or.inl rfl) (A8 GBG hr2 rfl mBG kBG bBG .nil B2 (A0 (pv 0) (A0 (pv 2) A1)))) (A2 (C0 (i:=4) nd rfl (Or.inl rfl) (E5 A1)) (Et (fun σ H'=>∃n,Afl H m x rl rs n σ H') (C0 (i:=5) nd rfl (Or.inl rfl) (A8 GFU hr2 rfl mFU kFU bFU .nil B2 (A0 (pv 1) (A0 (C4 (C2 (K:=K) rfl) (pv 3) A5 (fun _ _=>rfl)) A1)))) (A2 (U9 PassesOwn.never (B1 Jv (pv 5) F5 (C3 _)) (A2 (O5 (I9 PySem.F.plainAttrs_list PySem.F.slot_list_append PySem.F.type_list_append N2 (pv 4) (A0 (F2 (A0 (C4 (C2 (K:=K) rfl) (pv 5) A5 (fun _ _=>rfl)) (A0 (C4 (C9 (K:=K) rfl) (C4 (C2 (K:=K) rfl) (pv 3) A5 (fun _ _=>rfl)) (C4 (C2 (K:=K) rfl) (pv 5) A5 (fun _ _=>rfl)) (fun _ _=>rfl)) A1))) A1)))
   (A2 (C0 (i:=3) nd rfl (Or.inl rfl) (A8 GUD hr2 rfl mUD kUD bUD .nil B2 (A0 (C4 (C9 (K:=K) rfl) (pv 1) (C4 (C2 (K:=K) rfl) (pv 5) A5 (fun _ _=>rfl)) (fun _ _=>rfl)) (A0 (C4 (C2 (K:=K) rfl) (pv 3) A5 (fun _ _=>rfl)) (A0 (C4 (C2 (K:=K) rfl) (pv 3) A5 (fun _ _=>rfl)) (A0 (C4 (C2 (K:=K) rfl) (pv 5) A5 (fun _ _=>rfl)) A1))))))
   (A4 (C0 (i:=5) nd rfl (Or.inl rfl) (A8 GFU hr2 rfl mFU kFU bFU .nil B2 (A0 (pv 1) (A0 (C4 (C2 (K:=K) rfl) (pv 3) A5 (fun _ _=>rfl)) A1)))))))) (A4 (A9 (F2 (A0 (C4 (C2 (K:=K) rfl) (pv 3) A5 (fun _ _=>rfl)) (A0 (C4 (C2 (K:=K) rfl) (pv 3) A5 (fun _ _=>rfl)) (A0 (pv 4) A1)))))))))),?_⟩
  refine ⟨_,rfl,_,rfl,m,x,rfl,m7,hx,fun t0 p0 H1 s1 ht0 ht1 hp0 hp1=>?_⟩
  refine ⟨(by show 0<=sizeLine; exact Zp_ _),fun qa hqa=>?_⟩
  have c2:=UCore.begin (rs:=rs) m7 hx s1 hp0 hp1 hqa
  have ht2:=Same.new (o:=.lst []) hqa _ _ ht1
  generalize upd H1 qa (.lst [])=H2 at c2 ht2
  refine ⟨⟨_,rfl,_,rfl,t0,_,_,_,rfl,rfl,SqT.of ht2,A6 (j:=1) rfl,rl,p0,rs,E6 m x,m,rfl,c2.same.seq hrl,hRs.same c2.same,SqL.of c2.hp,lr,(by have:=c2.good.len m7; exact Zo_ this (by decide)),fun H3 s3 hu=>?_,fun u us t5 H3 s3 hu ht5 ht5'=>?_⟩,?_⟩
  ·exact ⟨_,_,t0,p0,qa,[],.non,rfl,rfl,s3 _ _ ht2,c2.mono s3,.inl ⟨hu,rfl⟩⟩
  ·exact ⟨_,_,t0,p0,qa,[],.ref t5,rfl,rfl,s3 _ _ ht2,c2.mono s3,.inr ⟨u,us,t5,hu,rfl,ht5'⟩⟩
  clear c2 ht2 ht1 hp1 hp0 ht0 s1 hqa
  rintro σ H3 ⟨n0,hinv⟩
  refine ⟨Afl H m x rl rs,⟨n0,hinv⟩,?_⟩
  rintro n _ H4 ⟨s,t,p,qa,sw,v,rfl,en,ht,c,hv⟩
  refine ⟨_,rfl,rfl,_,rfl,?_⟩
  rcases hv with ⟨hu,rfl⟩ | ⟨u,us,t5,hu,rfl,ht5⟩
  ·refine E7 ?_
   refine ⟨_,rfl,t,_,_,_,rfl,rfl,SqT.of ht,A6 (j:=0) rfl,_,rfl,t,_,_,_,rfl,rfl,SqT.of ht,A6 (j:=1) rfl,_,rfl,(by show 3<=sizeLine; decide),fun tt htt=>?_⟩
   have s5:=Same.new (o:=.tup [vN s.fx,V.ref p,V.ref qa]) htt
   have c5:=c.mono s5
   exact qq tt p qa s sw _ (c.run s (.done (by rw [Yp]; exact hu))) c5.same (c.same.none htt) A3 c5.hp0 c5.hp c5.hq0 c5.hq c5.st c5.est (by have:=c5.slen; omega) c5.npq
  ·refine N9 ?_
   refine ⟨_,fun _ _ h=>h,?_⟩
   obtain ⟨r,er,erd,hu2,ebu,hR⟩:=Acp (rs:=rs) (u:=u) (by rw [hu]; exact Θc ..) (hRs.same c.same)
   have ebv:(s.bs.map vN)[u.2]? = some (vN (s.bs.getD u.2 0)):=by rw [Θg,ebu]; rfl
   have erv:(rs.map fun r=>V.ref r.r)[u.1]? = some (V.ref r.r):=by rw [Θg,er]; rfl
   refine ⟨_,rfl,.inl ⟨rfl,_,SqL.of c.hq⟩,_,rfl,t5,_,_,_,rfl,rfl,SqT.of ht5,A6 (j:=0) rfl,_,rfl,t,_,_,_,rfl,rfl,SqT.of ht,A6 (j:=1) rfl,_,rfl,t5,_,_,_,rfl,rfl,SqT.of ht5,A6 (j:=1) rfl,p,_,_,_,rfl,rfl,SqL.of c.hp,A6 ebv,(by show 2<=sizeLine; decide),fun w hw=>?_⟩
   have sw1:=Same.new (o:=.tup [vN u.1,vN (s.bs.getD u.2 0)]) hw
   have c1:=c.mono sw1
   have hw1:(upd H4 w (.tup [vN u.1,vN (s.bs.getD u.2 0)])) w=some (.tup [vN u.1,vN (s.bs.getD u.2 0)]):=A3
   have ht1:=sw1 _ _ ht
   have ht51:=sw1 _ _ ht5
   generalize upd H4 w (.tup [vN u.1,vN (s.bs.getD u.2 0)])=H5 at sw1 c1 hw1 ht1 ht51
   refine ⟨qa,_,_,rfl,rfl,c1.hq,(by rw [Θl]; exact D0 (by have:=c1.slen; omega)),?_⟩
   have sq:Same H (upd H5 qa (.lst ((sw.map fun w=>V.ref w.1)++[V.ref w]))):=c1.same.own c1.hq0
   have ht2:(upd H5 qa (.lst ((sw.map fun w=>V.ref w.1)++[V.ref w]))) t=some (.tup [vN s.fx,.ref p]):=by rw [C6 (Eb ht1 c1.hq (by intro z; cases z))]; exact ht1
   have ht52:(upd H5 qa (.lst ((sw.map fun w=>V.ref w.1)++[V.ref w]))) t5=some (.tup [vN u.1,vN u.2]):=by rw [C6 (Eb ht51 c1.hq (by intro z; cases z))]; exact ht51
   have hp2:(upd H5 qa (.lst ((sw.map fun w=>V.ref w.1)++[V.ref w]))) p=some (.lst (s.bs.map vN)):=by rw [C6 c1.npq]; exact c1.hp
   have hdis:s.fx&&&s.bs.getD u.2 0=0:=c.good.dis _ (Θe ebu)
   refine ⟨_,rfl,_,rfl,t5,_,_,_,rfl,rfl,SqT.of ht52,A6 (j:=0) rfl,rl,_,_,_,rfl,rfl,sq.seq hrl,A6 erv,_,rfl,t,_,_,_,rfl,rfl,SqT.of ht2,A6 (j:=0) rfl,_,rfl,t,_,_,_,rfl,rfl,SqT.of ht2,A6 (j:=1) rfl,_,rfl,t5,_,_,_,rfl,rfl,SqT.of ht52,A6 (j:=1) rfl,r.r,p,r.st,r.x,r.y,s.fx,u.2,s.bs,rfl,sq _ _ (hRs r (Θe er)).1,SqL.of hp2,hu2,(by have:=c.good.len m7; omega),hdis,fun t' p' H6 s6 ht' ht6 hp' hp6=>?_⟩
   have efx:(S5 (rs.map Rl.d) s u).fx=R5 r.st r.y s.fx s.bs u.2:=by unfold S5; rw [erd]; rfl
   have ebs:(S5 (rs.map Rl.d) s u).bs=F8 r.st r.y s.bs u.2:=by unfold S5; rw [erd]; rfl
   rw [<-efx] at ht6
   rw [<-ebs] at hp6
   obtain ⟨c6,mu⟩:=c1.next (w:=(w,(u.1,s.bs.getD u.2 0))) hu rfl hw1 s6 hp' hp6
   refine ⟨_,rfl,_,rfl,t',_,_,_,rfl,rfl,SqT.of ht6,A6 (j:=1) rfl,rl,p',rs,(S5 (rs.map Rl.d) s u).bs,m,rfl,c6.same.seq hrl,hRs.same c6.same,SqL.of c6.hp,lr,(by have:=c6.good.len m7; omega),fun H7 s7 hu'=>?_,fun u' us' t5' H7 s7 hu' ht7 ht7'=>?_⟩
   ·exact ⟨_,by rw [en]; exact mu,_,t',p',qa,_,.non,rfl,rfl,s7 _ _ ht6,c6.mono s7,.inl ⟨hu',rfl⟩⟩
   ·exact ⟨_,by rw [en]; exact mu,_,t',p',qa,_,.ref t5',rfl,rfl,s7 _ _ ht6,c6.mono s7,.inr ⟨u',us',t5',hu',rfl,ht7'⟩⟩
end
end Own
namespace Own
open PySem L2
section
variable {P:Program} {w:World} {K:Θf} {mg:Str->Option Value} {base:Heap}
seal PySem.wpAny
noncomputable abbrev Aeu:Stmt:=top 15
theorem scBrk:FnScope ["rule","blocks","block"] ["rule","blocks"] (A7 Aeu):=⟨rfl,rfl,rfl,by decide +kernel,rfl,by decide +kernel,by decide +kernel⟩
theorem Ad2 {f fCU:Addr} {fd fdCU:FuncData} (F:Fun K "first_breaking" "first_breaking" Aeu f fd) (GCU:FnOk P w K mg base CX0 1 fCU fdCU ["rule","block"] Gu) (mCU:mg "can_use" = some (.ref fCU)) (kCU:Θk K fCU) (bCU:Binds K fdCU ["rule","block"] []):FnOk P w K mg base CX0 2 f fd ["rule","blocks"] (Go K):=by
 refine F.ok scBrk (fun vs H Q E h=>?_) (fun cdv A outer s H vs Q E hr h=>?_)
 ·obtain ⟨r,l,st,x,y,bs,rfl,_⟩:=h
  rfl
 ·obtain ⟨r,l,st,x,y,bs,rfl,hR,hl,lb,qn,qs⟩:=h
  have nd:=scBrk.nd
  have hr1:Room 1 _:=hr.mono (by decide)
  refine ⟨_,(A2 (K7 PassesOwn.never rfl (E3 (K:=K) rfl (pv 1)) (C5 (i:=2) nd rfl (Or.inl rfl)) (A4 (D1 (K8 (A8 GCU hr1 rfl mCU kCU bCU .nil B2 (A0 (pv 0) (A0 (pv 2) A1)))) (A4 (A9 (pv 2))) C1)))
   (A4 (A9 F5))),?_⟩
  refine ⟨_,rfl,l,rfl,⟨_,hl⟩,M6 (xs:=bs.map vN) (fun i σ H'=>(∃v2,σ=[some (.ref r),some (.ref l),v2])/\H' = H/\(bs.take i).find? (usB (st,x,y))=none) ⟨⟨none,rfl⟩,rfl,rfl⟩ (fun i σ H' _ h=>by rw [h.2.1]; exact hl) ?_ ?_⟩
  ·rintro i v σ H' hv ⟨⟨v2,rfl⟩,rfl,hn⟩
   rw [Θg] at hv
   cases eb:bs[i]? with
   | none=>rw [eb] at hv; cases hv
   | some b=>
    rw [eb] at hv
    obtain rfl:=(Θo hv).symm
    refine ⟨_,rfl,_,rfl,r,st,x,y,b,rfl,hR,_,rfl,E8 (fun hu=>?_) (fun hu=>?_)⟩
    ·exact ⟨_,rfl,qs b (Fo hn eb hu)⟩
    ·exact ⟨⟨_,rfl⟩,rfl,Y3 hn eb hu⟩
  ·rintro σ H' ⟨⟨v2,rfl⟩,rfl,hn⟩
   rw [Θl,List.take_length] at hn
   exact qn hn
noncomputable abbrev Aew:Stmt:=top 16
theorem scFol:FnScope ["many","rules","rule","told","block"] ["many","rules","rule"] (A7 Aew):=⟨rfl,rfl,rfl,by decide +kernel,rfl,by decide +kernel,by decide +kernel⟩
theorem Ad3 {f fUN fBR:Addr} {fd fdUN fdBR:FuncData} (F:Fun K "follows" "follows" Aew f fd) (GUN:FnOk P w K mg base CX0 3 fUN fdUN ["many","rules","some"] (S3 K)) (mUN:mg "unfolded" = some (.ref fUN)) (kUN:Θk K fUN) (bUN:Binds K fdUN ["many","rules","some"] []) (GBR:FnOk P w K mg base CX0 2 fBR fdBR ["rule","blocks"] (Go K)) (mBR:mg "first_breaking" = some (.ref fBR)) (kBR:Θk K fBR) (bBR:Binds K fdBR ["rule","blocks"] []):FnOk P w K mg base CX0 4 f fd ["many","rules","rule"] (Di K):=by
 refine F.ok scFol (fun vs H Q E h=>?_) (fun cdv A outer s H vs Q E hr h=>?_)
 ·obtain ⟨m,rl,r,rs,st,x,y,rfl,_⟩:=h
  rfl
 ·obtain ⟨m,rl,r,rs,st,x,y,rfl,m7,hx,hrl,hRs,lr,hR,qy,qn⟩:=h
  have nd:=scFol.nd
  have hr2:Room 2 _:=hr.mono (by decide)
  have hr3:Room 3 _:=hr.mono (by decide)
  refine ⟨_,(A2 (C0 (i:=3) nd rfl (Or.inl rfl) (A8 GUN hr3 rfl mUN kUN bUN .nil B2 (A0 (pv 0) (A0 (pv 1) (A0 (C4 (C2 (K:=K) rfl) (pv 2) A5 (fun _ _=>rfl)) A1)))))
   (A2 (C0 (i:=4) nd rfl (Or.inl rfl) (A8 GBR hr2 rfl mBR kBR bBR .nil B2 (A0 (pv 2) (A0 (C4 (C2 (K:=K) rfl) (pv 3) A5 (fun _ _=>rfl)) A1))))
   (A2 (D1 (B1 V8 (pv 4) F5 (C3 _)) (A4 (A9 (F2 (A0 B9 (A0 (C4 (C2 (K:=K) rfl) (pv 3) A5 (fun _ _=>rfl)) A1))))) C1)
   (A4 (A9 (F2 (A0 B9 (A0 (pv 4) A1)))))))),?_⟩
  refine ⟨_,rfl,_,rfl,_,rfl,r,_,_,_,rfl,rfl,SqT.of hR,A6 (j:=1) rfl,m,x,rl,rs,rfl,m7,hx,hrl,hRs,lr,fun t p qa s sw H1 R s1 ht ht1 hp hp1 hq hq1 st1 e1 l1 n1=>?_⟩
  have lb:=((R.good (m:=m) (Good.begin hx)).1).len m7
  refine ⟨_,rfl,_,rfl,t,_,_,_,rfl,rfl,SqT.of ht1,A6 (j:=1) rfl,r,p,st,x,y,s.bs,rfl,s1 _ _ hR,SqL.of hp1,by omega,fun hn=>?_,fun b hb=>?_⟩
  ·refine ⟨_,rfl,rfl,_,rfl,?_⟩
   refine N9 ?_
   refine ⟨_,rfl,t,_,_,_,rfl,rfl,SqT.of ht1,A6 (j:=2) rfl,(by show 2<=sizeLine; decide),fun t2 ht2=>?_⟩
   have s2:=Same.new (o:=.tup [V.str "yes",V.ref qa]) ht2
   exact qy s t2 qa sw _ R hn (s1.trans s2) (s1.none ht2) A3 hq (s2 _ _ hq1) (st1.same s2) e1 l1
  ·refine ⟨_,rfl,rfl,_,rfl,?_⟩
   refine E7 ?_
   refine ⟨_,rfl,(by show 2<=sizeLine; decide),fun t2 ht2=>?_⟩
   exact qn s b t2 _ R hb (s1.trans (Same.new ht2)) (s1.none ht2) A3
noncomputable abbrev Yy:Stmt:=top 17
theorem Ae1:FnScope ["many","rules","rule"] ["many","rules","rule"] (A7 Yy):=⟨rfl,rfl,rfl,by decide +kernel,rfl,by decide +kernel,by decide +kernel⟩
theorem Abk {f fFO:Addr} {fd fdFO:FuncData} (F:Fun K "does_follow" "does_follow" Yy f fd) (GFO:FnOk P w K mg base CX0 4 fFO fdFO ["many","rules","rule"] (Zv K)) (mFO:mg "follows" = some (.ref fFO)) (kFO:Θk K fFO) (bFO:Binds K fdFO ["many","rules","rule"] []):FnOk P w K mg base CX0 5 f fd ["many","rules","rule"] (Pt K):=by
 refine F.ok Ae1 (fun vs H Q E h=>?_) (fun cdv A outer s H vs Q E hr h=>?_)
 ·obtain ⟨m,rl,r,rs,st,x,y,rfl,_⟩:=h
  rfl
 ·obtain ⟨m,rl,r,rs,st,x,y,rfl,m7,hx,hrl,hRs,lr,hR,q⟩:=h
  have hr4:Room 4 _:=hr.mono (by decide)
  refine ⟨_,(A4 (A9 (P3 op_eq (C4 (C2 (K:=K) rfl) (A8 GFO hr4 rfl mFO kFO bFO .nil B2 (A0 (pv 0) (A0 (pv 1) (A0 (pv 2) A1)))) A5 (fun _ _=>rfl)) B9 (C3 _)))),?_⟩
  refine ⟨_,rfl,_,rfl,_,rfl,m,rl,r,rs,st,x,y,rfl,m7,hx,hrl,hRs,lr,hR,fun b t v H1 i1 s1 ht=>?_⟩
  refine ⟨t,_,_,_,rfl,rfl,SqT.of ht,A6 (j:=0) rfl,rfl,?_⟩
  show Q (.bl (decide (V.str (ynS b)=V.str "yes"))) H1
  rw [Afe]
  exact q b H1 i1 s1
noncomputable abbrev Gj:Stmt:=top 18
theorem Us:FnScope ["many","rules","some"] ["many","rules","some"] (A7 Gj):=⟨rfl,rfl,rfl,by decide +kernel,rfl,by decide +kernel,by decide +kernel⟩
theorem Ov {f fUN:Addr} {fd fdUN:FuncData} (F:Fun K "settled" "settled" Gj f fd) (GUN:FnOk P w K mg base CX0 3 fUN fdUN ["many","rules","some"] (S3 K)) (mUN:mg "unfolded" = some (.ref fUN)) (kUN:Θk K fUN) (bUN:Binds K fdUN ["many","rules","some"] []):FnOk P w K mg base CX0 4 f fd ["many","rules","some"] (Dj K):=by
 refine F.ok Us (fun vs H Q E h=>?_) (fun cdv A outer s H vs Q E hr h=>?_)
 ·obtain ⟨m,x,rl,rs,rfl,_⟩:=h
  rfl
 ·obtain ⟨m,x,rl,rs,rfl,m7,hx,hrl,hRs,lr,q⟩:=h
  have hr3:Room 3 _:=hr.mono (by decide)
  refine ⟨_,(A4 (A9 (C4 (C2 (K:=K) rfl) (A8 GUN hr3 rfl mUN kUN bUN .nil B2 (A0 (pv 0) (A0 (pv 1) (A0 (pv 2) A1)))) A5 (fun _ _=>rfl)))),?_⟩
  refine ⟨_,rfl,_,rfl,_,rfl,m,x,rl,rs,rfl,m7,hx,hrl,hRs,lr,fun t p qa s sw H1 R s1 ht ht1 hp hp1 hq hq1 st1 e1 l1 n1=>?_⟩
  exact ⟨t,_,_,_,rfl,rfl,SqT.of ht1,A6 (j:=0) rfl,q s H1 R s1⟩
noncomputable abbrev W0:Stmt:=top 20
theorem scSingle:FnScope ["rules","settling","rule"] ["rules"] (A7 W0):=⟨rfl,rfl,rfl,by decide +kernel,rfl,by decide +kernel,by decide +kernel⟩
theorem Adx:¬Vis (A7 W0) "":=by rintro (h | h | h) <;> exact absurd h (by decide +kernel)
theorem Uf {f fC:Addr} {fd fdC:FuncData} (F:Fun K "single_rules" "single_rules" W0 f fd) (GC:FnOk P w K mg base CX0 2 fC fdC ["some"] Gp) (mC:mg "columns_of" = some (.ref fC)) (kC:Θk K fC) (bC:Binds K fdC ["some"] []):FnOk P w K mg base CX0 3 f fd ["rules"] (Ng K):=by
 refine F.ok scSingle (fun vs H Q E h=>?_) (fun cdv A outer s H vs Q E hr h=>?_)
 ·obtain ⟨m,rl,rs,rfl,_⟩:=h
  rfl
 ·obtain ⟨m,rl,rs,rfl,m7,hrl,hRs,lr,q⟩:=h
  have nd:=scSingle.nd
  have hr2:Room 2 _:=hr.mono (by decide)
  have p7:=W4 m7
  refine ⟨_,(A2 (C0 (i:=1) nd rfl (Or.inl rfl) (E5 A1)) (A2 (K7 PassesOwn.never rfl (E3 (K:=K) rfl (pv 0)) (C5 (i:=2) nd rfl (Or.inr rfl)) (A4 (D1 (B1 op_eq (C4 (C2 (K:=K) rfl) (pv 2) A5 (fun _ _=>rfl)) B9 (C3 _)) (A4 (O5 (I9 PySem.F.plainAttrs_list PySem.F.slot_list_extend PySem.F.type_list_extend Cy (pv 1) (A0 (K0 (xs:=["column"]) (cs ["rules","settling","rule"] (A7 W0) rfl rfl (by decide +kernel)) rfl (E3 (K:=K) rfl (A8 GC hr2 rfl mC kC bC .nil B2 (A0 (B0 P7 (C4 (C2 (K:=K) rfl) (pv 2) A5 (fun _ _=>rfl)) (Ga Av (C4 (C2 (K:=K) rfl) (pv 2) A5 (fun _ _=>rfl)))) A1))) (fun _ _ _=>C5 (i:=0) (show (["column","rules","settling","rule"]:List Str).Nodup by decide +kernel) rfl (Or.inl rfl)) (fun _ _ _=>K5) (fun _ _ _=>(F2 (A0 B9 (A0 (C4 (C2 (K:=K) rfl) (pv 3) A5 (fun _ _=>rfl)) (A0 (B0 P9 A5 (pv 0)) A1)))))) A1)))) C1))) (Pc 2 (A4 (A9 (B0 K6 (pv 1) (Ab1 2 (show ¬Vis (A7 W0) "" from Adx) (K0 (xs:=["rule"]) (cs ["rules","settling",""] (A7 W0) rfl rfl (by decide +kernel)) rfl (E3 (K:=K) rfl (pv 0)) (fun _ _ _=>C5 (i:=0) (show (["rule","rules","settling",""]:List Str).Nodup by decide +kernel) rfl (Or.inl rfl)) (fun _ _ _=>(R1 (B1 op_eq (C4 (C2 (K:=K) rfl) (pv 0) A5 (fun _ _=>rfl)) B9 (C3 _)))) (fun _ _ _=>(pv 0)))))))))),?_⟩
  refine ⟨(by show 0<=sizeLine; exact Zp_ _),fun sl hsl=>?_⟩
  refine ⟨_,rfl,rl,rfl,⟨_,(Same.new hsl).seq hrl⟩,M6 (xs:=rs.map fun r=>V.ref r.r) (fun i σ H'=>(∃v2,σ=[some (.ref rl),some (.ref sl),v2])/\Same H H'/\∃ss:List Rl,H' sl=some (.lst (ss.map fun r=>V.ref r.r))/\ss.map Rl.d=(((rs.take i).map Rl.d).filter fun r=>r.1).flatMap (Z0 D4)/\RulesAt H' m ss/\ss.length<=7 * i) ⟨⟨none,rfl⟩,Same.new hsl,[],A3,rfl,(fun r h=>absurd h Zi_),Zd_ _⟩ (fun i σ H' _ h=>h.2.1.seq hrl) ?_ ?_⟩
  ·rintro i v σ H1 hv ⟨⟨v2,rfl⟩,s1,ss,hs1,es,hSs,ls⟩
   rw [Θg] at hv
   cases er:rs[i]? with
   | none=>rw [er] at hv; cases hv
   | some r=>
    rw [er] at hv
    obtain rfl:=(Θo hv).symm
    have hrm:=Θe er
    obtain ⟨r1,r2,r3⟩:=hRs r hrm
    have hR1:=s1 _ _ r1
    have et:(rs.take (i + 1)).map Rl.d=(rs.take i).map Rl.d++[r.d]:=by rw [List.take_succ,er,Zw_]; rfl
    refine ⟨_,rfl,r.r,_,_,_,rfl,rfl,SqT.of hR1,A6 (j:=0) rfl,rfl,_,rfl,?_⟩
    cases est:r.st with
    | false=>
     refine E8 (fun hc=>?_) (fun _=>?_)
     ·exact absurd (Zj_ hc) (by intro z; injection z with z; revert z; decide)
     refine ⟨⟨_,rfl⟩,s1,ss,hs1,?_,hSs,by omega⟩
     rw [es,et,List.filter_append,List.filter_cons_of_neg (by show ¬r.st=true; rw [est]; exact Zf_),List.filter_nil,List.append_nil]
    | true=>
     refine E8 (fun _=>?_) (fun hc=>absurd (Zr_ rfl) hc)
     have hle:r.y - (r.y&&&r.x) < 2 ^ m:=by omega
     have cl:=Sz (r.y - (r.y&&&r.x)) (by omega)
     refine ⟨_,rfl,.inl ⟨rfl,_,SqL.of hs1⟩,_,rfl,r.r,_,_,_,rfl,rfl,SqT.of hR1,A6 (j:=2) rfl,_,rfl,r.r,_,_,_,rfl,rfl,SqT.of hR1,A6 (j:=1) rfl,(r.x:Int),rfl,r.y,r.x,rfl,rfl,r.y - (r.y&&&r.x),rfl,by omega,fun cp hcp=>⟨cp,rfl,⟨_,SqL.of A3⟩,?_⟩⟩
     have sC:=Same.new (o:=.lst ((D4 (r.y - (r.y&&&r.x))).map vN)) hcp
     have hcp2:(upd H1 cp (.lst ((D4 (r.y - (r.y&&&r.x))).map vN))) cp=some (.lst ((D4 (r.y - (r.y&&&r.x))).map vN)):=A3
     generalize upd H1 cp (.lst ((D4 (r.y - (r.y&&&r.x))).map vN))=H2 at sC hcp2
     refine L6 (xs:=(D4 (r.y - (r.y&&&r.x))).map vN) (fun j acc H'=>∃ts:List Rl,acc=(ts.map fun r=>V.ref r.r)/\ts.length=j/\ts.map Rl.d=((D4 (r.y - (r.y&&&r.x))).take j).map (fun c=>((true,r.x,2 ^ c):RD))/\RulesAt H' m ts/\Same H2 H') (by rw [Θl]; omega) ⟨[],rfl,rfl,rfl,(fun r h=>absurd h Zi_),Same.refl _⟩ (fun j acc H' hj h=>?_) (fun j v acc H' hv' h=>?_) (fun acc H' h=>?_)
     ·obtain ⟨ts,rfl,e,_,_,s'⟩:=h
      exact ⟨SqL.of (s' _ _ hcp2),by rw [Θl,e]; exact Zd_ _⟩
     ·obtain ⟨ts,rfl,e,ed,hTs,s'⟩:=h
      rw [Θg] at hv'
      cases ec:(D4 (r.y - (r.y&&&r.x)))[j]? with
      | none=>rw [ec] at hv'; cases hv'
      | some c=>
       rw [ec] at hv'
       obtain rfl:=(Θo hv').symm
       have hc:=(O3 (a:=r.y - (r.y&&&r.x)) (by omega) c).mp (Θe ec)
       have hcm:=V3 hle hc
       have pc2:2 ^ c < 2 ^ m:=Nat.pow_lt_pow_right (by decide) hcm
       refine ⟨rfl,_,rfl,r.r,_,_,_,rfl,rfl,SqT.of ((sC.trans s') _ _ hR1),A6 (j:=1) rfl,_,rfl,c,rfl,rfl,by omega,(by show 3<=sizeLine; decide),fun t ht=>?_⟩
       have sT:=Same.new (o:=.tup [V.str "settle",vN r.x,vN (2 ^ c)]) ht
       refine ⟨ts++[⟨t,true,r.x,2 ^ c⟩],by rw [Zw_]; rfl,by rw [Zv_,e]; rfl,by rw [Zw_,ed,List.take_succ,ec,Zw_]; rfl,fun r' hr'=>?_,s'.trans sT⟩
       rcases Θa hr' with hr' | hr'
       ·exact ⟨sT _ _ (hTs r' hr').1,(hTs r' hr').2⟩
       ·rw [Θs hr']; exact ⟨A3,r2,pc2⟩
     obtain ⟨ts,rfl,e,ed,hTs,s'⟩:=h
     rw [Θl] at e
     rw [Θl,List.take_length] at ed
     intro tp htp
     have sP:=Same.new (o:=.lst (ts.map fun r=>V.ref r.r)) htp
     have hs5:=(sC.trans (s'.trans sP)) _ _ hs1
     refine ⟨sl,tp,_,_,rfl,rfl,hs5,A3,Nat.le_of_lt (D0 (by rw [Θl,Θl]; have:=(Ze_.mp er).1; omega)),?_⟩
     refine ⟨⟨_,rfl⟩,(s1.trans (sC.trans (s'.trans sP))).own hsl,ss++ts,by rw [A3,Zw_],?_,?_,by rw [Zv_]; omega⟩
     ·rw [Zw_,es,ed,et,List.filter_append,List.flatMap_append,List.filter_cons_of_pos (show r.d.1=true from est),List.filter_nil,List.flatMap_cons,List.flatMap_nil,List.append_nil]
      rfl
     ·intro r' hr'
      rcases Θa hr' with hr' | hr'
      ·exact ((hSs.same (sC.trans (s'.trans sP))).put hs5) r' hr'
      ·exact ((hTs.same sP).put hs5) r' hr'
  ·rintro σ H1 ⟨⟨v2,rfl⟩,s1,ss,hs1,es,hSs,ls⟩
   rw [Θl] at ls
   rw [Θl,List.take_length] at es
   refine ⟨_,rfl,(fun v z=>by cases z),_,rfl,rl,rfl,⟨_,s1.seq hrl⟩,L6 (xs:=rs.map fun r=>V.ref r.r) (fun i acc H'=>H' = H1/\∃ds:List Rl,acc=(ds.map fun r=>V.ref r.r)/\ds.length<=i/\ds.map Rl.d=((rs.take i).map Rl.d).filter (fun r=>!r.1)/\∀r∈ds,r∈rs) (by rw [Θl]; omega) ⟨rfl,[],rfl,Zd_ _,rfl,fun r h=>absurd h Zi_⟩ (fun i acc H' hi h=>?_) (fun i v acc H' hv h=>?_) (fun acc H' h=>?_)⟩
   ·obtain ⟨rfl,ds,rfl,e,_⟩:=h
    exact ⟨s1.seq hrl,by rw [Θl]; exact e⟩
   ·obtain ⟨rfl,ds,rfl,e,ed,hds⟩:=h
    rw [Θg] at hv
    cases er:rs[i]? with
    | none=>rw [er] at hv; cases hv
    | some r=>
     rw [er] at hv
     obtain rfl:=(Θo hv).symm
     have hrm:=Θe er
     have et:(rs.take (i + 1)).map Rl.d=(rs.take i).map Rl.d++[r.d]:=by rw [List.take_succ,er,Zw_]; rfl
     refine ⟨rfl,_,rfl,r.r,_,_,_,rfl,rfl,SqT.of (s1 _ _ (hRs r hrm).1),A6 (j:=0) rfl,rfl,_,rfl,?_⟩
     cases est:r.st with
     | true=>
      refine E8 (fun hc=>?_) (fun _=>?_)
      ·exact absurd (Zj_ hc) (by intro z; injection z with z; revert z; decide)
      refine ⟨rfl,ds,rfl,Nat.le_succ_of_le e,?_,hds⟩
      rw [ed,et,List.filter_append,List.filter_cons_of_neg (by show ¬(!r.st)=true; rw [est]; decide),List.filter_nil,List.append_nil]
     | false=>
      refine E8 (fun _=>?_) (fun hc=>absurd (Zr_ rfl) hc)
      refine ⟨_,rfl,rfl,ds++[r],by rw [Zw_]; rfl,by rw [Zv_]; exact Nat.succ_le_succ e,?_,fun r' hr'=>?_⟩
      ·rw [Zw_,ed,et,List.filter_append,List.filter_cons_of_pos (by show (!r.st)=true; rw [est]; rfl),List.filter_nil]; rfl
      ·rcases Θa hr' with hr' | hr'
       ·exact hds r' hr'
       ·rw [Θs hr']; exact hrm
   obtain ⟨rfl,ds,rfl,e,ed,hds⟩:=h
   rw [Θl] at e
   rw [Θl,List.take_length] at ed
   intro dp hdp
   have sD:=Same.new (o:=.lst (ds.map fun r=>V.ref r.r)) hdp
   refine ⟨sl,dp,_,_,rfl,rfl,sD _ _ hs1,A3,Nat.le_of_lt (D0 (by rw [Θl,Θl]; omega)),fun p hp=>?_⟩
   rw [<-Zw_]
   have sP:=Same.new (o:=.lst ((ss++ds).map fun r=>V.ref r.r)) hp
   have sDP:=sD.trans sP
   refine q (ss++ds) p _ (by rw [Zw_,es,ed]; rfl) (fun r hr'=>?_) (by rw [Zv_]; omega) (s1.trans sDP) ((s1.trans sD).none hp) A3
   rcases Θa hr' with hr' | hr'
   ·exact (hSs.same sDP) r hr'
   ·exact ((hRs.same s1).same sDP) r (hds r hr')
end
end Own
namespace Own
open PySem L2
section
variable {P:Program} {w:World} {K:Θf} {mg:Str->Option Value} {base:Heap}
seal PySem.wpAny
noncomputable abbrev Pk:Stmt:=top 21
theorem scLeast:FnScope ["many","rules","least","at","rule","column","shorter"] ["many","rules"] (A7 Pk):=⟨rfl,rfl,rfl,by decide +kernel,rfl,by decide +kernel,by decide +kernel⟩
theorem Xv {f fDF fC:Addr} {fd fdDF fdC:FuncData} (F:Fun K "with_least_lefts" "with_least_lefts" Pk f fd) (GDF:FnOk P w K mg base CX0 5 fDF fdDF ["many","rules","rule"] (Pt K)) (mDF:mg "does_follow" = some (.ref fDF)) (kDF:Θk K fDF) (bDF:Binds K fdDF ["many","rules","rule"] []) (GC:FnOk P w K mg base CX0 2 fC fdC ["some"] Gp) (mC:mg "columns_of" = some (.ref fC)) (kC:Θk K fC) (bC:Binds K fdC ["some"] []) (zlist:mg "list" = none) (zenumerate:mg "enumerate" = none):FnOk P w K mg base CX0 6 f fd ["many","rules"] (Nc K):=by
 refine F.ok scLeast (fun vs H Q E h=>?_) (fun cdv A outer s H vs Q E hr h=>?_)
 ·obtain ⟨m,rl,rs,rfl,_⟩:=h
  rfl
 ·obtain ⟨m,rl,rs,rfl,m7,hrl,hRs,lr,q⟩:=h
  have nd:=scLeast.nd
  have hr2:Room 2 _:=hr.mono (by decide)
  have hr5:Room 5 _:=hr.mono (by decide)
  have p7:=W4 m7
  refine ⟨_,(A2 (C0 (i:=2) nd rfl (Or.inl rfl) (O8 (Ad (K:=K) rfl) (by rfl) zlist PyProof.Rows.boot_list (A0 (pv 1) A1)))
   (A2 (K7 PassesOwn.never rfl (Bn (K:=K) rfl rfl zenumerate (A0 (pv 1) A1)) (T6 rfl (E1 (C5 (i:=3) nd rfl (Or.inl rfl)) (E1 (C5 (i:=4) nd rfl (Or.inl rfl)) N4))) (A4 (D1 (B1 op_eq (C4 (C2 (K:=K) rfl) (pv 4) A5 (fun _ _=>rfl)) B9 (C3 _)) (A4 (K7 PassesOwn.never rfl (E3 (K:=K) rfl (A8 GC hr2 rfl mC kC bC .nil B2 (A0 (C4 (C2 (K:=K) rfl) (pv 4) A5 (fun _ _=>rfl)) A1))) (C5 (i:=5) nd rfl (Or.inl rfl)) (A2 (C0 (i:=6) nd rfl (Or.inl rfl) (F2 (A0 B9 (A0 (B0 P7 (C4 (C2 (K:=K) rfl) (C4 (C9 (K:=K) rfl) (pv 2) (pv 3) (fun _ _=>rfl)) A5 (fun _ _=>rfl)) (Ga Av (B0 P9 A5 (pv 5)))) (A0 (C4 (C2 (K:=K) rfl) (pv 4) A5 (fun _ _=>rfl)) A1)))))
   (A4 (D1 (K8 (A8 GDF hr5 rfl mDF kDF bDF .nil B2 (A0 (pv 0) (A0 (pv 2) (A0 (pv 6) A1))))) (A4 (Gc (pv 6) (Yl (pv 2) (pv 3) Mx))) C1))))) C1)))
   (A4 (A9 (pv 2))))),?_⟩
  refine ⟨_,rfl,rl,_,rfl,.inl hrl,fun lp hlp=>?_⟩
  have c0:LCoreX H m rs.length rs lp (upd H lp (.lst (rs.map fun r=>V.ref r.r))):=⟨Same.new hlp,hlp,A3,hRs.same (Same.new hlp),rfl⟩
  refine ⟨_,rfl,rl,_,rfl,c0.same.seq hrl,W6 (xs:=rs.map fun r=>V.ref r.r) (fun i σ H'=>(∃v3 v4 v5 v6,σ=[some (vN m),some (.ref rl),some (.ref lp),v3,v4,v5,v6])/\∃ls:List Rl,LCoreX H m rs.length ls lp H'/\ls.map Rl.d=L7 m (rs.map Rl.d) i) ⟨⟨none,none,none,none,rfl⟩,rs,c0,rfl⟩ (fun i σ H' _ h=>by obtain ⟨_,ls,c,_⟩:=h; exact c.same.seq hrl) ?_ ?_⟩
  ·rintro i v σ H1 t0 hv ⟨⟨v3,v4,v5,v6,rfl⟩,ls,c,els⟩ ht0
   rw [Θg] at hv
   cases er:rs[i]? with
   | none=>rw [er] at hv; cases hv
   | some r=>
    rw [er] at hv
    obtain rfl:=(Θo hv).symm
    have hrm:=Θe er
    have hi:i < rs.length:=(Ze_.mp er).1
    have erd:(rs.map Rl.d)[i]? = some r.d:=by rw [Θg,er]; rfl
    have erA:=Eu erd
    have c1:=c.mono (Same.new (o:=.tup [.int (i:Int),V.ref r.r]) ht0)
    refine ⟨t0,_,rfl,SqT.of A3,rfl,_,_,rfl,_,_,rfl,rfl,?_⟩
    generalize upd H1 t0 (.tup [.int (i:Int),V.ref r.r])=H2 at c1
    obtain ⟨r1,r2,r3⟩:=hRs r hrm
    have hR2:=c1.same _ _ r1
    refine ⟨_,rfl,r.r,_,_,_,rfl,rfl,SqT.of hR2,A6 (j:=0) rfl,rfl,_,rfl,?_⟩
    cases est:r.st with
    | false=>
     refine E8 (fun hc=>?_) (fun _=>?_)
     ·exact absurd (Zj_ hc) (by intro z; injection z with z; revert z; decide)
     refine ⟨⟨_,_,_,_,rfl⟩,ls,c1,?_⟩
     rw [P1,erA,if_neg (by show ¬r.st=true; rw [est]; exact Zf_)]
     exact els
    | true=>
     refine E8 (fun _=>?_) (fun hc=>absurd (Zr_ rfl) hc)
     refine ⟨_,rfl,r.r,_,_,_,rfl,rfl,SqT.of hR2,A6 (j:=1) rfl,r.x,rfl,by omega,fun cp hcp=>?_⟩
     have c2:=c1.mono (Same.new (o:=.lst ((D4 r.x).map vN)) hcp)
     have hcp2:(upd H2 cp (.lst ((D4 r.x).map vN))) cp=some (.lst ((D4 r.x).map vN)):=A3
     have ncl:cp≠lp:=Ne.symm (C7 c1.hp hcp)
     generalize upd H2 cp (.lst ((D4 r.x).map vN))=H3 at c2 hcp2
     have hl0:∃l,ls[i]? = some l/\l.y=r.y:=by
      have h1:(ls.map Rl.d)[i]? = some r.d:=by rw [els,S7 _ _ _ _ (Zd_ _)]; exact erd
      rw [Θg] at h1
      cases e:ls[i]? with
      | none=>rw [e] at h1; cases h1
      | some l=>
       rw [e] at h1
       have h2:l.d=r.d:=Θo h1
       exact ⟨l,rfl,congrArg (fun z:RD=>z.2.2) h2⟩
     refine ⟨cp,rfl,⟨_,SqL.of hcp2⟩,M6 (xs:=(D4 r.x).map vN) (fun n σ H'=>(∃v5 v6,σ=[some (vN m),some (.ref rl),some (.ref lp),some (vN i),some (.ref r.r),v5,v6])/\H' cp=some (.lst ((D4 r.x).map vN))/\∃ls:List Rl,LCoreX H m rs.length ls lp H'/\(∃l,ls[i]? = some l/\l.y=r.y)/\ls.map Rl.d=M3 m i (L7 m (rs.map Rl.d) i) ((D4 r.x).take n)) ⟨⟨_,_,rfl⟩,hcp2,ls,c2,hl0,els⟩ (fun n σ H' _ h=>SqL.of h.2.1) ?_ ?_⟩
     ·rintro n v σ H4 hv' ⟨⟨v5',v6',rfl⟩,hcp4,ls4,c4,⟨l,hl,ely⟩,e4⟩
      rw [Θg] at hv'
      cases ec:(D4 r.x)[n]? with
      | none=>rw [ec] at hv'; cases hv'
      | some cc=>
       rw [ec] at hv'
       obtain rfl:=(Θo hv').symm
       have hlm:=Θe hl
       obtain ⟨l1,l2,l3⟩:=c4.at_ l hlm
       have hil:i < ls4.length:=(Ze_.mp hl).1
       have hR4:=c4.same _ _ r1
       have hcc:cc < 8:=by
        have:=(O3 (a:=r.x) (by omega) cc).mp (Θe ec)
        have:=V3 r2 this
        omega
       have ets:(D4 r.x).take (n + 1)=(D4 r.x).take n++[cc]:=by rw [List.take_succ,ec]; rfl
       have hl5:(ls4.map Rl.d)[i]? = some l.d:=by rw [Θg,hl]; rfl
       have elA:N6 (ls4.map Rl.d) i=(l.st,l.x,r.y):=by rw [Eu hl5,<-ely]; rfl
       refine ⟨_,rfl,_,rfl,lp,_,_,_,rfl,rfl,SqL.of c4.hp,A6 (j:=i) (v:=V.ref l.r) (by rw [Θg,hl]; rfl),l.r,_,_,_,rfl,rfl,SqT.of l1,A6 (j:=1) rfl,_,rfl,cc,rfl,rfl,by omega,((2 ^ cc:Nat):Int),rfl,l.x,2 ^ cc,rfl,rfl,_,rfl,r.r,_,_,_,rfl,rfl,SqT.of hR4,A6 (j:=2) rfl,(by show 3<=sizeLine; decide),fun sp hsp=>?_⟩
       have sS:=Same.new (o:=.tup [V.str "settle",vN (l.x - (l.x&&&2 ^ cc)),vN r.y]) hsp
       have c5:=c4.mono sS
       have hsp5:E4 (upd H4 sp (.tup [V.str "settle",vN (l.x - (l.x&&&2 ^ cc)),vN r.y])) sp true (L0 l.x cc) r.y:=A3
       have hcp5:=sS _ _ hcp4
       have cbl:L0 l.x cc < 2 ^ m:=by unfold L0; omega
       generalize upd H4 sp (.tup [V.str "settle",vN (l.x - (l.x&&&2 ^ cc)),vN r.y])=H5 at c5 hsp5 hcp5
       refine ⟨_,rfl,_,rfl,_,rfl,m,lp,sp,ls4,true,L0 l.x cc,r.y,rfl,m7,cbl,SqL.of c5.hp,c5.at_,by rw [c5.len]; omega,hsp5,fun b H6 ib s6=>⟨_,rfl,E8 (fun hb=>?_) (fun hb=>?_)⟩⟩
       ·have c6:=c5.mono s6
        have fl:=ib.mp hb
        have hlen6:(ls4.map fun r=>V.ref r.r).length=ls4.length:=Θl ..
        refine ⟨_,rfl,_,rfl,_,rfl,lp,_,(i:Int),i,rfl,rfl,c6.hp,?_,?_⟩
        ·unfold ixN
         rw [if_pos (by omega),if_pos (by rw [hlen6]; omega)]; rfl
        have eset:((ls4.map fun r=>V.ref r.r).set i (V.ref sp))=((ls4.set i ⟨sp,true,L0 l.x cc,r.y⟩).map fun r=>V.ref r.r):=by rw [List.map_set]
        rw [eset]
        refine ⟨⟨_,_,rfl⟩,by rw [C6 ncl]; exact s6 _ _ hcp5,ls4.set i ⟨sp,true,L0 l.x cc,r.y⟩,c6.put (s6 _ _ hsp5) cbl r3,⟨⟨sp,true,L0 l.x cc,r.y⟩,List.getElem?_set_self hil,rfl⟩,?_⟩
        rw [ets,Bh,<-e4,Iz (by rw [elA]; exact fl),elA,List.map_set]; rfl
       ·refine ⟨⟨_,_,rfl⟩,s6 _ _ hcp5,ls4,c5.mono s6,⟨l,hl,ely⟩,?_⟩
        rw [ets,Bh,<-e4,Nh (by rw [elA]; exact fun z=>hb (ib.mpr z))]
     ·rintro σ H4 ⟨⟨v5',v6',rfl⟩,hcp4,ls4,c4,_,e4⟩
      rw [Θl,List.take_length] at e4
      refine ⟨⟨_,_,_,_,rfl⟩,ls4,c4,?_⟩
      rw [P1,erA,if_pos (show r.d.1=true from est)]
      exact e4
  ·rintro σ H1 ⟨⟨v3,v4,v5,v6,rfl⟩,ls,c,els⟩
   rw [Θl] at els
   exact ⟨_,rfl,q ls lp H1 els c.at_ (by rw [c.len]; exact lr) c.same c.hp0 c.hp⟩
noncomputable abbrev Zd:Stmt:=top 22
theorem scNeed:FnScope ["many","rules","left","at","others"] ["many","rules"] (A7 Zd):=⟨rfl,rfl,rfl,by decide +kernel,rfl,by decide +kernel,by decide +kernel⟩
theorem Abq {f fDF:Addr} {fd fdDF:FuncData} (F:Fun K "without_needless" "without_needless" Zd f fd) (GDF:FnOk P w K mg base CX0 5 fDF fdDF ["many","rules","rule"] (Pt K)) (mDF:mg "does_follow" = some (.ref fDF)) (kDF:Θk K fDF) (bDF:Binds K fdDF ["many","rules","rule"] []) (zlist:mg "list" = none) (zlen:mg "len" = none):FnOk P w K mg base CX0 6 f fd ["many","rules"] (Rv K):=by
 refine F.ok scNeed (fun vs H Q E h=>?_) (fun cdv A outer s H vs Q E hr h=>?_)
 ·obtain ⟨m,rl,rs,rfl,_⟩:=h
  rfl
 ·obtain ⟨m,rl,rs,rfl,m7,hrl,hRs,lr,q⟩:=h
  have nd:=scNeed.nd
  have hr5:Room 5 _:=hr.mono (by decide)
  refine ⟨_,(A2 (C0 (i:=2) nd rfl (Or.inl rfl) (O8 (Ad (K:=K) rfl) (by rfl) zlist PyProof.Rows.boot_list (A0 (pv 1) A1)))
   (A2 (C0 (i:=3) nd rfl (Or.inl rfl) A5)
   (A2 (U9 PassesOwn.never (B1 Fx (pv 3) (D2 (D9 (K:=K) rfl) (by rfl) zlen PySem.boot_len (A0 (pv 2) A1)) (C3 _)) (A2 (C0 (i:=4) nd rfl (Or.inl rfl) (B0 K6 (J3 M5 (pv 2) M4 (K9 (pv 3))) (J3 M5 (pv 2) (K9 (B0 F9 (pv 3) A5)) M4)))
   (A4 (D1 (K8 (A8 GDF hr5 rfl mDF kDF bDF .nil B2 (A0 (pv 0) (A0 (pv 4) (A0 (C4 (C9 (K:=K) rfl) (pv 2) (pv 3) (fun _ _=>rfl)) A1))))) (A4 (C0 (i:=2) nd rfl (Or.inl rfl) (pv 4))) (A4 (Ym (i:=3) nd rfl (Or.inl rfl) A5 Wt))))))
   (A4 (A9 (pv 2)))))),?_⟩
  refine ⟨_,rfl,rl,_,rfl,.inl hrl,fun lp0 hlp0=>?_⟩
  refine ⟨fun n σ H'=>∃(ls:List Rl) (lp:Addr) (i:Nat) (v4:Option V),σ=[some (vN m),some (.ref rl),some (.ref lp),some (vN i),v4]/\n=ls.length - i/\Same H H'/\H lp=none/\H' lp=some (.lst (ls.map fun r=>V.ref r.r))/\RulesAt H' m ls/\ls.length<=160/\Q4 m [] (rs.map Rl.d)=Q4 m ((ls.map Rl.d).take i) ((ls.map Rl.d).drop i),⟨_,rs,lp0,0,none,rfl,rfl,Same.new hlp0,hlp0,A3,hRs.same (Same.new hlp0),lr,rfl⟩,?_⟩
  rintro n _ H1 ⟨ls,lp,i,v4,rfl,en,s1,hlp,hl1,hL,ll,ne⟩
  have llm:(ls.map fun r=>V.ref r.r).length=ls.length:=Θl ..
  refine ⟨_,rfl,_,rfl,lp,_,rfl,.inl (SqL.of hl1),i,(ls.map fun r=>V.ref r.r).length,rfl,rfl,_,rfl,E8 (fun hlt=>?_) (fun hge=>?_)⟩
  ·have hi:i < ls.length:=by have:=Zj_ hlt; rwa [llm] at this
   have el:ls[i]? = some ls[i]:=Θh hi
   refine ⟨_,fun _ _ h=>h,?_⟩
   refine ⟨_,rfl,_,rfl,(i:Int),rfl,lp,_,rfl,SqL.of hl1,fun p1 hp1=>?_⟩
   rw [Fk,<-List.map_take]
   have sA:=Same.new (o:=.lst ((ls.take i).map fun r=>V.ref r.r)) hp1
   refine ⟨_,rfl,_,rfl,i,1,rfl,rfl,((i + 1:Nat):Int),rfl,lp,_,rfl,SqL.of (sA _ _ hl1),fun p2 hp2=>?_⟩
   rw [Fj,<-List.map_drop]
   have sB:=Same.new (o:=.lst ((ls.drop (i + 1)).map fun r=>V.ref r.r)) hp2
   refine ⟨p1,p2,(ls.take i).map fun r=>V.ref r.r,(ls.drop (i + 1)).map fun r=>V.ref r.r,rfl,rfl,sB _ _ A3,A3,Nat.le_of_lt (D0 (by rw [Θl,Θl,ZB,List.length_drop]; omega)),fun p3 hp3=>?_⟩
   rw [<-Zw_,<-List.eraseIdx_eq_take_drop_succ]
   have sC:=Same.new (o:=.lst ((ls.eraseIdx i).map fun r=>V.ref r.r)) hp3
   have s3:=(sA.trans sB).trans sC
   have hp3':(upd (upd (upd H1 p1 (.lst ((ls.take i).map fun r=>V.ref r.r))) p2 (.lst ((ls.drop (i + 1)).map fun r=>V.ref r.r))) p3 (.lst ((ls.eraseIdx i).map fun r=>V.ref r.r))) p3=some (.lst ((ls.eraseIdx i).map fun r=>V.ref r.r)):=A3
   have hp3H:H p3=none:=(s1.trans (sA.trans sB)).none hp3
   generalize upd (upd (upd H1 p1 (.lst ((ls.take i).map fun r=>V.ref r.r))) p2 (.lst ((ls.drop (i + 1)).map fun r=>V.ref r.r))) p3 (.lst ((ls.eraseIdx i).map fun r=>V.ref r.r))=H3 at s3 hp3'
   have hE:∀r∈ls.eraseIdx i,r∈ls:=fun r hr'=>List.mem_of_mem_eraseIdx hr'
   have hLE:RulesAt H3 m (ls.eraseIdx i):=fun r hr'=>(hL.same s3) r (hE r hr')
   have lE:(ls.eraseIdx i).length=ls.length - 1:=by rw [List.length_eraseIdx_of_lt hi]
   have edE:(ls.eraseIdx i).map Rl.d=(ls.map Rl.d).eraseIdx i:=by rw [List.eraseIdx_eq_take_drop_succ,List.eraseIdx_eq_take_drop_succ,Zw_,List.map_take,List.map_drop]
   obtain ⟨l1,l2,l3⟩:=(hL.same s3) ls[i] (List.getElem_mem hi)
   refine ⟨_,rfl,_,rfl,_,rfl,_,rfl,lp,_,_,_,rfl,rfl,SqL.of (s3 _ _ hl1),A6 (j:=i) (v:=V.ref ls[i].r) (by rw [Θg,el]; rfl),m,p3,ls[i].r,ls.eraseIdx i,ls[i].st,ls[i].x,ls[i].y,rfl,m7,l2,SqL.of hp3',hLE,by omega,l1,fun b H4 ib s4=>⟨_,rfl,E8 (fun hb=>?_) (fun hb=>?_)⟩⟩
   ·have f:=ib.mp hb
    rw [edE] at f
    have eli:(ls.map Rl.d)[i]? = some ls[i].d:=by rw [Θg,el]; rfl
    refine ⟨_,rfl,(ls.eraseIdx i).length - i,?_,ls.eraseIdx i,p3,i,_,rfl,rfl,(s1.trans s3).trans s4,hp3H,s4 _ _ hp3',hLE.same s4,by omega,?_⟩
    ·rw [en,lE]; omega
    ·rw [edE,<-(Me eli).1 f]; exact ne
   ·have eli:(ls.map Rl.d)[i]? = some ls[i].d:=by rw [Θg,el]; rfl
    refine ⟨_,rfl,(i:Int),1,rfl,rfl,ls.length - (i + 1),by omega,ls,lp,i + 1,_,rfl,rfl,(s1.trans s3).trans s4,hlp,(s3.trans s4) _ _ hl1,(hL.same s3).same s4,ll,?_⟩
    rw [<-(Me eli).2 (fun z=>hb (ib.mpr (by rw [edE]; exact z)))]; exact ne
  ·have hi:ls.length<=i:=by
    have:¬i < (ls.map fun r=>V.ref r.r).length:=fun z=>hge (Zr_ z)
    rw [llm] at this
    omega
   refine ⟨_,rfl,q ls lp H1 ?_ hL ll s1 hlp hl1⟩
   rw [ne,List.take_of_length_le (by rw [Θl]; exact hi),List.drop_of_length_le (by rw [Θl]; exact hi)]; rfl
noncomputable abbrev Pg:Stmt:=top 23
theorem Ace:FnScope ["many","rules"] ["many","rules"] (A7 Pg):=⟨rfl,rfl,rfl,by decide +kernel,rfl,by decide +kernel,by decide +kernel⟩
theorem Xp {f fNE fLE fSR:Addr} {fd fdNE fdLE fdSR:FuncData} (F:Fun K "cover" "cover" Pg f fd) (GNE:FnOk P w K mg base CX0 6 fNE fdNE ["many","rules"] (Rv K)) (mNE:mg "without_needless" = some (.ref fNE)) (kNE:Θk K fNE) (bNE:Binds K fdNE ["many","rules"] []) (GLE:FnOk P w K mg base CX0 6 fLE fdLE ["many","rules"] (Nc K)) (mLE:mg "with_least_lefts" = some (.ref fLE)) (kLE:Θk K fLE) (bLE:Binds K fdLE ["many","rules"] []) (GSR:FnOk P w K mg base CX0 3 fSR fdSR ["rules"] (Ng K)) (mSR:mg "single_rules" = some (.ref fSR)) (kSR:Θk K fSR) (bSR:Binds K fdSR ["rules"] []):FnOk P w K mg base CX0 7 f fd ["many","rules"] (Gq K):=by
 refine F.ok Ace (fun vs H Q E h=>?_) (fun cdv A outer s H vs Q E hr h=>?_)
 ·obtain ⟨m,rl,rs,rfl,_⟩:=h
  rfl
 ·obtain ⟨m,rl,rs,rfl,m7,hrl,hRs,lr,q⟩:=h
  have hr6:Room 6 _:=hr.mono (by decide)
  have hr3:Room 3 _:=hr.mono (by decide)
  refine ⟨_,(A4 (A9 (A8 GNE hr6 rfl mNE kNE bNE .nil B2 (A0 (pv 0) (A0 (A8 GLE hr6 rfl mLE kLE bLE .nil B2 (A0 (pv 0) (A0 (A8 GSR hr3 rfl mSR kSR bSR .nil B2 (A0 (pv 1) A1)) A1))) A1))))),?_⟩
  refine ⟨_,rfl,_,rfl,_,rfl,m,rl,rs,rfl,m7,hrl,hRs,lr,fun ss p1 H1 es hSs l1 s1 hp1 hp1'=>?_⟩
  refine ⟨m,p1,ss,rfl,m7,SqL.of hp1',hSs,l1,fun ls p2 H2 LP hLs l2 s2 hp2 hp2'=>?_⟩
  refine ⟨m,p2,ls,rfl,m7,SqL.of hp2',hLs,l2,fun cs p3 H3 NP hCs l3 s3 hp3 hp3'=>?_⟩
  refine q cs p3 H3 ?_ hCs l3 ((s1.trans s2).trans s3) ((s1.trans s2).none hp3) hp3'
  have el:ss.length=(I8 D4 (rs.map Rl.d)).length:=by rw [<-es,Θl]
  rw [NP,LP,es,el]; rfl
end
end Own
namespace Own
open PySem L2
section
variable {P:Program} {w:World} {K:Θf} {mg:Str->Option Value} {base:Heap}
seal PySem.wpAny
noncomputable abbrev Y8:Stmt:=top 44
theorem Pq:FnScope ["some","found"] ["some","found"] (A7 Y8):=⟨rfl,rfl,rfl,by decide +kernel,rfl,by decide +kernel,by decide +kernel⟩
theorem Ml {f fIW:Addr} {fd fdIW:FuncData} (F:Fun K "holds_one" "holds_one" Y8 f fd) (GIW:FnOk P w K mg base CX0 1 fIW fdIW ["one","other"] S4) (mIW:mg "is_within" = some (.ref fIW)) (kIW:Θk K fIW) (bIW:Binds K fdIW ["one","other"] []) (zany:mg "any" = none):FnOk P w K mg base CX0 2 f fd ["some","found"] (Ar K):=by
 refine F.ok Pq (fun vs H Q E h=>?_) (fun cdv A outer s H vs Q E hr h=>?_)
 ·obtain ⟨x,p,f,rfl,_⟩:=h
  rfl
 ·obtain ⟨x,p,f,rfl,hp,lf,q⟩:=h
  have hr1:Room 1 _:=hr.mono (by decide)
  refine ⟨_,(A4 (A9 (D2 (Co (K:=K) rfl rfl) (by rfl) zany PyProof.Rows.boot_any (A0 (K0 (xs:=["inner"]) (cs ["some","found"] (A7 Y8) rfl rfl (by decide +kernel)) rfl (E3 (K:=K) rfl (pv 1)) (fun _ _ _=>C5 (i:=0) (show (["inner","some","found"]:List Str).Nodup by decide +kernel) rfl (Or.inl rfl)) (fun _ _ _=>K5) (fun _ _ _=>(A8 GIW hr1 rfl mIW kIW bIW .nil B2 (A0 (pv 0) (A0 (pv 1) A1))))) A1)))),?_⟩
  refine ⟨_,rfl,p,rfl,⟨_,hp⟩,L6 (K:=K) (xs:=f.map vN) (fun j acc H2=>H2=H/\acc=((f.take j).map fun y=>decide (y&&&x=y)).map V.bl) (by rw [Θl]; omega) ⟨rfl,rfl⟩ (fun j acc H2 hj h=>?_) (fun j v acc H2 hx h=>?_) (fun acc H2 h=>?_)⟩
  ·obtain ⟨rfl,rfl⟩:=h
   exact ⟨hp,by rw [Θl,Θl]; exact List.length_take_le _ _⟩
  ·obtain ⟨rfl,rfl⟩:=h
   rw [Θg] at hx
   cases ey:f[j]? with
   | none=>rw [ey] at hx; cases hx
   | some y=>
    rw [ey] at hx
    obtain rfl:=(Θo hx).symm
    refine ⟨rfl,_,rfl,_,rfl,y,x,rfl,rfl,?_⟩
    rw [List.take_succ,ey,Zw_,Zw_]
    rfl
  ·obtain ⟨rfl,rfl⟩:=h
   rw [Θl,List.take_length]
   intro e he
   refine ⟨e,_,rfl,SqL.of A3,?_⟩
   rw [Acq]
   exact q _ (Same.new he)
noncomputable abbrev Zb:Stmt:=top 45
theorem scKeys:FnScope ["many","rules","whole","found","some"] ["many","rules"] (A7 Zb):=⟨rfl,rfl,rfl,by decide +kernel,rfl,by decide +kernel,by decide +kernel⟩
theorem Abn {f fAL fSW fHO fSE:Addr} {fd fdAL fdSW fdHO fdSE:FuncData} (F:Fun K "keys" "keys" Zb f fd) (GAL:FnOk P w K mg base CX0 1 fAL fdAL ["many"] Bx) (mAL:mg "all_of" = some (.ref fAL)) (kAL:Θk K fAL) (bAL:Binds K fdAL ["many"] []) (GSW:FnOk P w K mg base CX0 7 fSW fdSW ["some"] Sc) (mSW:mg "sets_within" = some (.ref fSW)) (kSW:Θk K fSW) (bSW:Binds K fdSW ["some"] []) (GHO:FnOk P w K mg base CX0 2 fHO fdHO ["some","found"] (Ar K)) (mHO:mg "holds_one" = some (.ref fHO)) (kHO:Θk K fHO) (bHO:Binds K fdHO ["some","found"] []) (GSE:FnOk P w K mg base CX0 4 fSE fdSE ["many","rules","some"] (Dj K)) (mSE:mg "settled" = some (.ref fSE)) (kSE:Θk K fSE) (bSE:Binds K fdSE ["many","rules","some"] []):FnOk P w K mg base CX0 8 f fd ["many","rules"] (Pu K):=by
 refine F.ok scKeys (fun vs H Q E h=>?_) (fun cdv A outer s H vs Q E hr h=>?_)
 ·obtain ⟨m,rl,rs,rfl,_⟩:=h
  rfl
 ·obtain ⟨m,rl,rs,rfl,m7,hrl,hRs,lr,q⟩:=h
  have nd:=scKeys.nd
  have hr1:Room 1 _:=hr.mono (by decide)
  have hr2:Room 2 _:=hr.mono (by decide)
  have hr4:Room 4 _:=hr.mono (by decide)
  have p7:=W4 m7
  have pw0:0 < 2 ^ m:=Nat.two_pow_pos m
  obtain ⟨l1,l2,_⟩:=X9 m (by omega)
  refine ⟨_,(A2 (C0 (i:=2) nd rfl (Or.inl rfl) (A8 GAL hr1 rfl mAL kAL bAL .nil B2 (A0 (pv 0) A1)))
   (A2 (C0 (i:=3) nd rfl (Or.inl rfl) (E5 A1))
   (A2 (K7 PassesOwn.never rfl (E3 (K:=K) rfl (A8 GSW hr rfl mSW kSW bSW .nil B2 (A0 (pv 2) A1))) (C5 (i:=4) nd rfl (Or.inl rfl)) (A4 (D1 (PW.pt (Pd (R9 (K8 (A8 GHO hr2 rfl mHO kHO bHO .nil B2 (A0 (pv 4) (A0 (pv 3) A1))))) (Ka (B1 O1 (A8 GSE hr4 rfl mSE kSE bSE .nil B2 (A0 (pv 0) (A0 (pv 1) (A0 (pv 4) A1)))) (pv 2) (C3 _))))) (A4 (O5 (I9 PySem.F.plainAttrs_list PySem.F.slot_list_append PySem.F.type_list_append N2 (pv 3) (A0 (pv 4) A1)))) C1)))
   (A4 (A9 (pv 3)))))),?_⟩
  refine ⟨_,rfl,m,rfl,by omega,?_⟩
  refine ⟨Zp_ _,fun p hp0=>?_⟩
  have s0:=Same.new (o:=.lst []) hp0
  refine ⟨_,rfl,2 ^ m - 1,rfl,by omega,fun d H1 s1 hd0 hd1=>?_⟩
  rw [<-Zp m (by omega)] at hd1
  have hp1:H1 p=some (.lst ((N7 m (rs.map Rl.d) ((F6 m).take 0)).map vN)):=s1 _ _ A3
  refine ⟨d,rfl,⟨_,SqL.of hd1⟩,M6 (K:=K) (xs:=(F6 m).map vN) (fun i σ H'=>(∃v4,σ=[some (vN m),some (.ref rl),some (vN (2 ^ m - 1)),some (.ref p),v4])/\Same H H'/\H' d=some (.lst ((F6 m).map vN))/\H' p=some (.lst ((N7 m (rs.map Rl.d) ((F6 m).take i)).map vN))) ⟨⟨_,rfl⟩,s0.trans s1,hd1,hp1⟩ (fun i σ H' _ h=>SqL.of h.2.2.1) ?_ ?_⟩
  ·rintro i v σ H2 hv ⟨⟨v4,rfl⟩,s2,hd2,hp2⟩
   rw [Θg] at hv
   cases ex:(F6 m)[i]? with
   | none=>rw [ex] at hv; cases hv
   | some x=>
    rw [ex] at hv
    obtain rfl:=(Θo hv).symm
    have hx:x < 2 ^ m:=Zj_ (List.all_eq_true.mp l2 x (Θe ex))
    have hdp:d≠p:=fun e=>by
     rw [e] at hd0
     rw [A3] at hd0
     cases hd0
    obtain ⟨f,ef⟩:∃f,f=N7 m (rs.map Rl.d) ((F6 m).take i):=⟨_,rfl⟩
    have es:N7 m (rs.map Rl.d) ((F6 m).take (i + 1))=Aj m (rs.map Rl.d) f x:=by rw [ef]; exact Og ex
    have lf:f.length<=128:=by
     have h1:=Cr m (rs.map Rl.d) ((F6 m).take i)
     have h2:((F6 m).take i).length<=(F6 m).length:=List.length_take_le' i _
     rw [ef]; omega
    rw [<-ef] at hp2
    refine ⟨_,rfl,_,rfl,x,p,f,rfl,SqL.of hp2,by omega,fun H3 s3=>⟨_,rfl,E8 (fun hb=>?_) (fun hb=>E7 ?_)⟩⟩
    ·have hw:wiB x f=false:=by
      cases z:wiB x f with
      | false=>rfl
      | true=>rw [z] at hb; cases hb
     refine ⟨_,rfl,_,rfl,_,rfl,m,x,rl,rs,rfl,m7,hx,(s2.trans s3).seq hrl,hRs.same (s2.trans s3),lr,fun u H4 R s4=>?_⟩
     have B:=R.blocks hx
     have s24:=s3.trans s4
     refine ⟨_,rfl,u.fx,2 ^ m - 1,rfl,rfl,_,rfl,E8 (fun hc=>?_) (fun hc=>?_)⟩
     ·have hA:=B.whole.mp (Zj_ hc)
      have hp4:=s24 _ _ hp2
      refine ⟨_,rfl,.inl ⟨rfl,_,SqL.of hp4⟩,_,rfl,p,_,_,rfl,rfl,hp4,D0 (by rw [Θl]; omega),?_⟩
      refine ⟨⟨_,rfl⟩,(s2.trans s24).own hp0,by rw [C6 hdp]; exact s24 _ _ hd2,?_⟩
      rw [A3,es,U2 hw hA,Zw_]; rfl
     ·refine ⟨⟨_,rfl⟩,s2.trans s24,s24 _ _ hd2,?_⟩
      rw [es,Y4 (fun z=>hc (Zr_ (B.whole.mpr z.2)))]
      exact s24 _ _ hp2
    ·refine ⟨⟨_,rfl⟩,s2.trans s3,s3 _ _ hd2,?_⟩
     rw [es,Y4 (fun z=>hb (by rw [z.1]; rfl))]
     exact s3 _ _ hp2
  ·rintro σ H2 ⟨⟨v4,rfl⟩,s2,hd2,hp2⟩
   rw [Θl,List.take_length] at hp2
   exact ⟨_,rfl,q p H2 s2 hp0 hp2⟩
noncomputable abbrev Kd:Stmt:=top 49
theorem scByLeft:FnScope ["rules","parts","rule"] ["rules"] (A7 Kd):=⟨rfl,rfl,rfl,by decide +kernel,rfl,by decide +kernel,by decide +kernel⟩
theorem Tw {f:Addr} {fd:FuncData} (F:Fun K "parts_by_left" "parts_by_left" Kd f fd) (zlist:mg "list" = none):FnOk P w K mg base CX0 1 f fd ["rules"] (Mz K):=by
 refine F.ok scByLeft (fun vs H Q E h=>?_) (fun cdv A outer s H vs Q E hr h=>?_)
 ·obtain ⟨m,rl,rs,rfl,_⟩:=h
  rfl
 ·obtain ⟨m,rl,rs,rfl,hrl,hRs,lr,q⟩:=h
  have nd:=scByLeft.nd
  refine ⟨_,(A2 (C0 (i:=1) nd rfl (Or.inl rfl) Yk)
   (A2 (K7 PassesOwn.never rfl (E3 (K:=K) rfl (pv 0)) (C5 (i:=2) nd rfl (Or.inl rfl)) (A4 (Ab5 (Acv hr) (pv 1) (C4 (C2 (K:=K) rfl) (pv 2) A5 (fun _ _=>rfl)) (B0 X4 (Yj (Acv hr) (pv 1) (C4 (C2 (K:=K) rfl) (pv 2) A5 (fun _ _=>rfl)) (C4 (C2 (K:=K) rfl) (pv 2) A5 (fun _ _=>rfl)) ⟨rfl,rfl,rfl,rfl⟩) (C4 (C2 (K:=K) rfl) (pv 2) A5 (fun _ _=>rfl))) rfl)))
   (A4 (A9 (O8 (Nu rfl) (by rfl) zlist PyProof.Rows.boot_list (A0 (Ab2 (pv 1)) A1)))))),?_⟩
  intro p hp
  refine ⟨_,rfl,rl,rfl,⟨_,(Same.new hp).seq hrl⟩,M6 (K:=K) (xs:=rs.map fun (r:Rl)=>V.ref r.r) (fun i σ H'=>(∃v2,σ=[some (.ref rl),some (.ref p),v2])/\Same H H'/\H' p=some (.dK (dNk (L3 ((rs.take i).map Rl.d)) (ptN ((rs.take i).map Rl.d))))) ⟨⟨_,rfl⟩,Same.new hp,A3⟩ (fun i σ H' _ h=>h.2.1.seq hrl) ?_ ?_⟩
  ·rintro i v σ H2 hv ⟨⟨v2,rfl⟩,s2,hp2⟩
   rw [Θg] at hv
   cases er:rs[i]? with
   | none=>rw [er] at hv; cases hv
   | some r=>
    rw [er] at hv
    obtain rfl:=(Θo hv).symm
    obtain ⟨r1,r2,r3⟩:=hRs r (Θe er)
    have hR:=s2 _ _ r1
    have et:(rs.take (i + 1)).map Rl.d=(rs.take i).map Rl.d++[r.d]:=by rw [List.take_succ,er,Zw_]; rfl
    have ll:=Ia ((rs.take i).map Rl.d)
    rw [Θl,ZB] at ll
    refine ⟨_,rfl,p,rfl,.inl ⟨_,.inl hp2⟩,_,rfl,r.r,_,_,_,rfl,rfl,SqT.of hR,A6 (j:=1) rfl,_,rfl,r.r,_,_,_,rfl,rfl,SqT.of hR,A6 (j:=1) rfl,_,DGet.k (k:=kn r.x) hp2,?_⟩
    rw [Adb]
    refine ⟨_,rfl,r.r,_,_,_,rfl,rfl,SqT.of hR,A6 (j:=2) rfl,ptN ((rs.take i).map Rl.d) r.x,r.y,rfl,rfl,_,rfl,_,rfl,r.r,_,_,_,rfl,rfl,SqT.of hR,A6 (j:=1) rfl,p,_,rfl,DPut.k (k:=kn r.x) hp2 (D0 (by rw [Aa0]; omega)),?_⟩
    refine ⟨⟨_,rfl⟩,s2.own hp,?_⟩
    rw [A3,et,<-Aav]; rfl
  ·rintro σ H2 ⟨⟨v2,rfl⟩,s2,hp2⟩
   rw [Θl,List.take_length] at hp2
   refine ⟨_,rfl,p,_,rfl,hp2,fun v hv=>?_⟩
   refine ⟨v,p,_,rfl,A3,(Same.new hv) _ _ hp2,fun l hl=>?_⟩
   refine q l _ ((s2.trans (Same.new hv)).trans (Same.new hl)) ((s2.trans (Same.new hv)).none hl) ?_
   rw [A3,Vt]; rfl
noncomputable abbrev Bv:Stmt:=top 50
theorem Ut:FnScope ["parts","found"] ["parts","found"] (A7 Bv):=⟨rfl,rfl,rfl,by decide +kernel,rfl,by decide +kernel,by decide +kernel⟩
theorem Oy {f fHO:Addr} {fd fdHO:FuncData} (F:Fun K "with_a_key" "with_a_key" Bv f fd) (GHO:FnOk P w K mg base CX0 2 fHO fdHO ["some","found"] (Ar K)) (mHO:mg "holds_one" = some (.ref fHO)) (kHO:Θk K fHO) (bHO:Binds K fdHO ["some","found"] []) (zany:mg "any" = none):FnOk P w K mg base CX0 3 f fd ["parts","found"] (Iy K):=by
 refine F.ok Ut (fun vs H Q E h=>?_) (fun cdv A outer s H vs Q E hr h=>?_)
 ·obtain ⟨a,b,ps,f,rfl,_⟩:=h
  rfl
 ·obtain ⟨a,b,ps,f,rfl,ha,hb,lp,lf,fne,q⟩:=h
  have hr2:Room 2 _:=hr.mono (by decide)
  refine ⟨_,(A2 (D1 (K8 (D2 (Co (K:=K) rfl rfl) (by rfl) zany PyProof.Rows.boot_any (A0 (K0 (xs:=["part"]) (cs ["parts","found"] (A7 Bv) rfl rfl (by decide +kernel)) rfl (E3 (K:=K) rfl (pv 0)) (fun _ _ _=>C5 (i:=0) (show (["part","parts","found"]:List Str).Nodup by decide +kernel) rfl (Or.inl rfl)) (fun _ _ _=>K5) (fun _ _ _=>(A8 GHO hr2 rfl mHO kHO bHO .nil B2 (A0 (pv 0) (A0 (pv 2) A1))))) A1))) (A4 (A9 (pv 0))) C1)
   (A4 (A9 (B0 K6 (pv 0) (E5 (A0 (C4 (C9 (K:=K) rfl) (pv 1) A5 (fun _ _=>rfl)) A1)))))),?_⟩
  refine ⟨_,rfl,a,rfl,⟨_,SqL.of ha⟩,L6 (K:=K) (xs:=ps.map vN) (fun j acc H2=>Same H H2/\acc=((ps.take j).map fun p=>wiB p f).map V.bl) (by rw [Θl]; omega) ⟨(fun _ _ z=>z),rfl⟩ (fun j acc H2 hj h=>?_) (fun j v acc H2 hx h=>?_) (fun acc H2 h=>?_)⟩
  ·obtain ⟨s2,rfl⟩:=h
   exact ⟨SqL.of (s2 _ _ ha),by rw [Θl,Θl]; exact List.length_take_le _ _⟩
  ·obtain ⟨s2,rfl⟩:=h
   rw [Θg] at hx
   cases ey:ps[j]? with
   | none=>rw [ey] at hx; cases hx
   | some y=>
    rw [ey] at hx
    obtain rfl:=(Θo hx).symm
    refine ⟨rfl,_,rfl,_,rfl,y,b,f,rfl,SqL.of (s2 _ _ hb),by omega,fun H3 s3=>⟨s2.trans s3,?_⟩⟩
    rw [List.take_succ,ey,Zw_,Zw_]
    rfl
  ·obtain ⟨s2,rfl⟩:=h
   rw [Θl,List.take_length]
   intro e he
   have sE:=s2.trans (Same.new (o:=.lst ((ps.map fun p=>wiB p f).map V.bl)) he)
   have heE:(upd H2 e (.lst ((ps.map fun p=>wiB p f).map V.bl))) e=some (.lst ((ps.map fun p=>wiB p f).map V.bl)):=A3
   generalize upd H2 e (.lst ((ps.map fun p=>wiB p f).map V.bl))=H3 at sE heE
   refine ⟨e,_,rfl,SqL.of heE,_,rfl,?_⟩
   rw [List.any_map]
   refine E8 (fun hc=>?_) (fun hc=>?_)
   ·have ek:kyF ps f=ps:=if_pos hc
    refine ⟨_,rfl,q a H3 sE (by rw [ek]; exact sE _ _ ha)⟩
   ·have ek:kyF ps f=ps++f.take 1:=if_neg hc
    cases f with
    | nil=>exact absurd rfl fne
    | cons f0 fr=>
     refine ⟨_,rfl,_,rfl,b,_,_,_,rfl,rfl,SqL.of (sE _ _ hb),A6 (j:=0) rfl,(by show 1<=sizeLine; decide),fun l hl=>?_⟩
     have sL:=Same.new (o:=.lst [vN f0]) hl
     refine ⟨a,l,_,_,rfl,rfl,sL _ _ (sE _ _ ha),A3,Nat.le_of_lt (D0 (by rw [Θl]; show ps.length + 1<=_; omega)),fun r hr'=>?_⟩
     refine q r _ ((sE.trans sL).trans (Same.new hr')) ?_
     rw [A3,ek,Zw_]; rfl
noncomputable abbrev Kh:Stmt:=top 51
theorem scInner:FnScope ["parts","left","at","others"] ["parts"] (A7 Kh):=⟨rfl,rfl,rfl,by decide +kernel,rfl,by decide +kernel,by decide +kernel⟩
theorem Xu {f fIW:Addr} {fd fdIW:FuncData} (F:Fun K "without_inner" "without_inner" Kh f fd) (GIW:FnOk P w K mg base CX0 1 fIW fdIW ["one","other"] S4) (mIW:mg "is_within" = some (.ref fIW)) (kIW:Θk K fIW) (bIW:Binds K fdIW ["one","other"] []) (zlist:mg "list" = none) (zlen:mg "len" = none) (zany:mg "any" = none):FnOk P w K mg base CX0 2 f fd ["parts"] (Rt K):=by
 refine F.ok scInner (fun vs H Q E h=>?_) (fun cdv A outer s H vs Q E hr h=>?_)
 ·obtain ⟨a,ps,rfl,_⟩:=h
  rfl
 ·obtain ⟨a,ps,rfl,ha,lp,q⟩:=h
  have nd:=scInner.nd
  have hr1:Room 1 _:=hr.mono (by decide)
  refine ⟨_,(A2 (C0 (i:=1) nd rfl (Or.inr rfl) (O8 (Ad (K:=K) rfl) (by rfl) zlist PyProof.Rows.boot_list (A0 (pv 0) A1)))
   (A2 (C0 (i:=2) nd rfl (Or.inr rfl) A5)
   (A2 (U9 PassesOwn.never (B1 Fx (pv 2) (D2 (D9 (K:=K) rfl) (by rfl) zlen PySem.boot_len (A0 (pv 1) A1)) (C3 _)) (A2 (C0 (i:=3) nd rfl (Or.inl rfl) (B0 K6 (J3 M5 (pv 1) M4 (K9 (pv 2))) (J3 M5 (pv 1) (K9 (B0 F9 (pv 2) A5)) M4)))
   (A4 (D1 (K8 (D2 (Co (K:=K) rfl rfl) (by rfl) zany PyProof.Rows.boot_any (A0 (K0 (xs:=["other"]) (cs ["parts","left","at","others"] (A7 Kh) rfl rfl (by decide +kernel)) rfl (E3 (K:=K) rfl (pv 3)) (fun _ _ _=>C5 (i:=0) (show (["other","parts","left","at","others"]:List Str).Nodup by decide +kernel) rfl (Or.inl rfl)) (fun _ _ _=>K5) (fun _ _ _=>(A8 GIW hr1 rfl mIW kIW bIW .nil B2 (A0 (C4 (C9 (K:=K) rfl) (pv 2) (pv 3) (fun _ _=>rfl)) (A0 (pv 0) A1))))) A1))) (A4 (C0 (i:=1) nd rfl (Or.inr rfl) (pv 3))) (A4 (Ym (i:=2) nd rfl (Or.inr rfl) A5 Wt))))))
   (A4 (A9 (pv 1)))))),?_⟩
  refine ⟨_,rfl,a,_,rfl,.inl ha,fun lp0 hlp0=>?_⟩
  refine ⟨fun n σ H'=>∃(ls:List Nat) (lp:Addr) (i:Nat) (v3:Option V),σ=[some (.ref a),some (.ref lp),some (vN i),v3]/\n=ls.length - i/\Same H H'/\H lp=none/\H' lp=some (.lst (ls.map vN))/\ls.length<=190/\P4 [] ps=P4 (ls.take i) (ls.drop i),⟨_,ps,lp0,0,none,rfl,rfl,Same.new hlp0,hlp0,A3,lp,rfl⟩,?_⟩
  rintro n _ H1 ⟨ls,lp,i,v3,rfl,en,s1,hlp,hl1,ll,ne⟩
  have llm:(ls.map vN).length=ls.length:=Θl ..
  refine ⟨_,rfl,_,rfl,lp,_,rfl,.inl (SqL.of hl1),i,(ls.map vN).length,rfl,rfl,_,rfl,E8 (fun hlt=>?_) (fun hge=>?_)⟩
  ·have hi:i < ls.length:=by have:=Zj_ hlt; rwa [llm] at this
   have el:ls[i]? = some ls[i]:=Θh hi
   refine ⟨_,fun _ _ h=>h,?_⟩
   refine ⟨_,rfl,_,rfl,(i:Int),rfl,lp,_,rfl,SqL.of hl1,fun p1 hp1=>?_⟩
   rw [Fk,<-List.map_take]
   have sA:=Same.new (o:=.lst ((ls.take i).map vN)) hp1
   refine ⟨_,rfl,_,rfl,i,1,rfl,rfl,((i + 1:Nat):Int),rfl,lp,_,rfl,SqL.of (sA _ _ hl1),fun p2 hp2=>?_⟩
   rw [Fj,<-List.map_drop]
   have sB:=Same.new (o:=.lst ((ls.drop (i + 1)).map vN)) hp2
   refine ⟨p1,p2,(ls.take i).map vN,(ls.drop (i + 1)).map vN,rfl,rfl,sB _ _ A3,A3,Nat.le_of_lt (D0 (by rw [Θl,Θl,ZB,List.length_drop]; omega)),fun p3 hp3=>?_⟩
   rw [<-Zw_,<-List.eraseIdx_eq_take_drop_succ]
   have sC:=Same.new (o:=.lst ((ls.eraseIdx i).map vN)) hp3
   have s3:=(sA.trans sB).trans sC
   have hp3':(upd (upd (upd H1 p1 (.lst ((ls.take i).map vN))) p2 (.lst ((ls.drop (i + 1)).map vN))) p3 (.lst ((ls.eraseIdx i).map vN))) p3=some (.lst ((ls.eraseIdx i).map vN)):=A3
   have hp3H:H p3=none:=(s1.trans (sA.trans sB)).none hp3
   generalize upd (upd (upd H1 p1 (.lst ((ls.take i).map vN))) p2 (.lst ((ls.drop (i + 1)).map vN))) p3 (.lst ((ls.eraseIdx i).map vN))=H3 at s3 hp3'
   have lE:(ls.eraseIdx i).length=ls.length - 1:=by rw [List.length_eraseIdx_of_lt hi]
   have hl3:=s3 _ _ hl1
   refine ⟨_,rfl,p3,rfl,⟨_,SqL.of hp3'⟩,L6 (K:=K) (xs:=(ls.eraseIdx i).map vN) (fun j acc H4=>H4=H3/\acc=(((ls.eraseIdx i).take j).map fun o=>decide (ls[i]&&&o=ls[i])).map V.bl) (by rw [Θl]; omega) ⟨rfl,rfl⟩ (fun j acc H4 hj h=>?_) (fun j v acc H4 hx h=>?_) (fun acc H4 h=>?_)⟩
   ·obtain ⟨rfl,rfl⟩:=h
    exact ⟨SqL.of hp3',by rw [Θl,Θl]; exact List.length_take_le _ _⟩
   ·obtain ⟨rfl,rfl⟩:=h
    rw [Θg] at hx
    cases ey:(ls.eraseIdx i)[j]? with
    | none=>rw [ey] at hx; cases hx
    | some y=>
     rw [ey] at hx
     obtain rfl:=(Θo hx).symm
     refine ⟨rfl,_,rfl,_,rfl,lp,_,_,_,rfl,rfl,SqL.of hl3,A6 (j:=i) (v:=vN ls[i]) (by rw [Θg,el]; rfl),_,rfl,ls[i],y,rfl,rfl,?_⟩
     rw [List.take_succ,ey,Zw_,Zw_]
     rfl
   ·obtain ⟨rfl,rfl⟩:=h
    rw [Θl,List.take_length]
    intro e he
    have sE:=Same.new (o:=.lst (((ls.eraseIdx i).map fun o=>decide (ls[i]&&&o=ls[i])).map V.bl)) he
    have heE:(upd H4 e (.lst (((ls.eraseIdx i).map fun o=>decide (ls[i]&&&o=ls[i])).map V.bl))) e=some (.lst (((ls.eraseIdx i).map fun o=>decide (ls[i]&&&o=ls[i])).map V.bl)):=A3
    generalize upd H4 e (.lst (((ls.eraseIdx i).map fun o=>decide (ls[i]&&&o=ls[i])).map V.bl))=H5 at sE heE
    refine ⟨e,_,rfl,SqL.of heE,_,rfl,?_⟩
    rw [List.any_map]
    obtain ⟨ty,tn⟩:=Ack (ls:=ls) el
    refine E8 (fun hc=>?_) (fun hc=>?_)
    ·refine ⟨_,rfl,(ls.eraseIdx i).length - i,?_,ls.eraseIdx i,p3,i,_,rfl,rfl,(s1.trans s3).trans sE,hp3H,sE _ _ hp3',by omega,?_⟩
     ·rw [en,lE]; omega
     ·rw [ne,ty hc]
    ·refine ⟨_,rfl,(i:Int),1,rfl,rfl,ls.length - (i + 1),by omega,ls,lp,i + 1,_,rfl,rfl,(s1.trans s3).trans sE,hlp,sE _ _ hl3,ll,?_⟩
     rw [ne,tn hc]
  ·have hi:ls.length<=i:=by
    have:¬i < (ls.map vN).length:=fun z=>hge (Zr_ z)
    rw [llm] at this
    omega
   refine ⟨_,rfl,q lp H1 s1 hlp ?_⟩
   rw [hl1,ne,List.take_of_length_le hi,List.drop_of_length_le hi]; rfl
noncomputable abbrev Acc:Stmt:=top 52
theorem scPBC:FnScope ["many","rules","settling","parts","left"] ["many","rules"] (A7 Acc):=⟨rfl,rfl,rfl,by decide +kernel,rfl,by decide +kernel,by decide +kernel⟩
theorem Ad7 {f fWK fBL fCV fKY fIN CTM:Addr} {fd fdWK fdBL fdCV fdKY fdIN:FuncData} {tkMP:PySem.Tok} (F:Fun K "parts_by_cover" "parts_by_cover" Acc f fd) (GWK:FnOk P w K mg base CX0 3 fWK fdWK ["parts","found"] (Iy K)) (mWK:mg "with_a_key" = some (.ref fWK)) (kWK:Θk K fWK) (bWK:Binds K fdWK ["parts","found"] []) (GBL:FnOk P w K mg base CX0 1 fBL fdBL ["rules"] (Mz K)) (mBL:mg "parts_by_left" = some (.ref fBL)) (kBL:Θk K fBL) (bBL:Binds K fdBL ["rules"] []) (GCV:FnOk P w K mg base CX0 7 fCV fdCV ["many","rules"] (Gq K)) (mCV:mg "cover" = some (.ref fCV)) (kCV:Θk K fCV) (bCV:Binds K fdCV ["many","rules"] []) (GKY:FnOk P w K mg base CX0 8 fKY fdKY ["many","rules"] (Pu K)) (mKY:mg "keys" = some (.ref fKY)) (kKY:Θk K fKY) (bKY:Binds K fdKY ["many","rules"] []) (GIN:FnOk P w K mg base CX0 2 fIN fdIN ["parts"] (Rt K)) (mIN:mg "without_inner" = some (.ref fIN)) (kIN:Θk K fIN) (bIN:Binds K fdIN ["parts"] []) (OTM:Exc K "TooMany" CTM) (mMP:mg "MOST_PARTS" = some (.int 10 tkMP)) (zlen:mg "len" = none):FnOk P w K mg base (CX1 P w) 9 f fd ["many","rules"] (Ac4 K CTM):=by
 refine F.ok1 scPBC (fun vs H Q E h=>?_) (fun cdv A outer s H vs Q E hr h=>?_)
 ·obtain ⟨m,rl,rs,rfl,_⟩:=h
  rfl
 ·obtain ⟨m,rl,rs,rfl,m7,hrl,hRs,lr,qe,qq⟩:=h
  have nd:=scPBC.nd
  have hr1:Room 1 _:=hr.mono (by decide)
  have hr2:Room 2 _:=hr.mono (by decide)
  have hr3:Room 3 _:=hr.mono (by decide)
  have hr7:Room 7 _:=hr.mono (by decide)
  have hr8:Room 8 _:=hr.mono (by decide)
  refine ⟨_,(A2 (S8 (i:=2) (xs:=["rule"]) (cs ["many","rules","settling","parts","left"] (A7 Acc) rfl rfl (by decide +kernel)) rfl nd rfl rfl (E3 (K:=K) rfl (pv 1)) (fun _ _ _=>C5 (i:=0) (show (["rule","many","rules","settling","parts","left"]:List Str).Nodup by decide +kernel) rfl (Or.inl rfl)) (fun _ _ _=>(R1 (B1 op_eq (C4 (C2 (K:=K) rfl) (pv 0) A5 (fun _ _=>rfl)) B9 (C3 _)))) (fun _ _ _=>(pv 0)))
   (A2 (C0 (i:=3) nd rfl (Or.inl rfl) (A8 GWK hr3 rfl mWK kWK bWK .nil B2 (A0 (A8 GBL hr1 rfl mBL kBL bBL .nil B2 (A0 (A8 GCV hr7 rfl mCV kCV bCV .nil B2 (A0 (pv 0) (A0 (pv 2) A1))) A1)) (A0 (A8 GKY hr8 rfl mKY kKY bKY .nil B2 (A0 (pv 0) (A0 (pv 2) A1))) A1))))
   (A2 (C0 (i:=4) nd rfl (Or.inl rfl) (A8 GIN hr2 rfl mIN kIN bIN .nil B2 (A0 (pv 3) A1)))
   (A2 (D1 (B1 T5 (D2 (D9 (K:=K) rfl) (by rfl) zlen PySem.boot_len (A0 (pv 4) A1)) (L8 (v:=vN 10) (by rfl) mMP ⟨_,rfl⟩) (C3 _)) (A4 (U8 (EX:=E) OTM (by rfl) rfl (A0 (Pa (L8 (v:=vN 10) (by rfl) mMP ⟨_,rfl⟩)) A1) (fun _ _ _ _ _ _ _ I hx hE=>R3 I hx hE))) C1)
   (A4 (A9 (pv 4))))))),?_⟩
  refine ⟨_,rfl,rl,rfl,⟨_,hrl⟩,L6 (K:=K) (xs:=rs.map fun (r:Rl)=>V.ref r.r) (fun j acc H2=>H2=H/\acc=((rs.take j).filter fun r=>r.st).map fun (r:Rl)=>V.ref r.r) (by rw [Θl]; omega) ⟨rfl,rfl⟩ (fun j acc H2 hj h=>?_) (fun j v acc H2 hx h=>?_) (fun acc H2 h=>?_)⟩
  ·obtain ⟨rfl,rfl⟩:=h
   exact ⟨hrl,by rw [Θl]; exact Zo_ (List.length_filter_le _ _) (List.length_take_le _ _)⟩
  ·obtain ⟨rfl,rfl⟩:=h
   rw [Θg] at hx
   cases er:rs[j]? with
   | none=>rw [er] at hx; cases hx
   | some r=>
    rw [er] at hx
    obtain rfl:=(Θo hx).symm
    obtain ⟨r1,_,_⟩:=hRs r (Θe er)
    refine ⟨rfl,_,rfl,r.r,_,_,_,rfl,rfl,SqT.of r1,A6 (j:=0) rfl,rfl,_,rfl,?_⟩
    rw [List.take_succ,er]
    show (if _ then _ else _)
    cases est:r.st with
    | false=>
     refine E8 (fun hc=>?_) (fun _=>⟨rfl,?_⟩)
     ·exact absurd (Zj_ hc) (by intro z; injection z with z; revert z; decide)
     ·rw [show (some r).toList=[r] from rfl,List.filter_append,List.filter_cons_of_neg (by show ¬r.st=true; rw [est]; exact Zf_),List.filter_nil,List.append_nil]
    | true=>
     refine E8 (fun _=>⟨_,rfl,rfl,?_⟩) (fun hc=>absurd (Zr_ rfl) hc)
     rw [show (some r).toList=[r] from rfl,List.filter_append,List.filter_cons_of_pos (by exact est),List.filter_nil,Zw_]; rfl
  ·obtain ⟨rfl,rfl⟩:=h
   rw [Θl,List.take_length]
   intro sp hsp
   obtain ⟨ss,ess⟩:∃ss,ss=rs.filter fun r=>r.st:=⟨_,rfl⟩
   rw [<-ess]
   have lss:ss.length<=rs.length:=by rw [ess]; exact List.length_filter_le _ _
   have hd:ss.map Rl.d=(rs.map Rl.d).filter fun r=>r.1:=by rw [ess,List.filter_map]; rfl
   have sS:=Same.new (o:=.lst (ss.map fun (r:Rl)=>V.ref r.r)) hsp
   have hspS:(upd H2 sp (.lst (ss.map fun (r:Rl)=>V.ref r.r))) sp=some (.lst (ss.map fun (r:Rl)=>V.ref r.r)):=A3
   generalize upd H2 sp (.lst (ss.map fun (r:Rl)=>V.ref r.r))=H3 at sS hspS
   have hSs:RulesAt H3 m ss:=fun r hr'=>(hRs.same sS) r (by rw [ess] at hr'; exact (List.mem_filter.mp hr').1)
   refine ⟨_,rfl,_,rfl,m,sp,ss,rfl,m7,SqL.of hspS,hSs,by omega,fun ks cp H4 ek hKs lk s4 hcp0 hcp=>?_⟩
   refine ⟨m,cp,ks,rfl,SqL.of hcp,hKs,lk,fun bp H5 s5 hbp0 hbp=>?_⟩
   refine ⟨_,rfl,_,rfl,m,sp,ss,rfl,m7,SqL.of ((s4.trans s5) _ _ hspS),hSs.same (s4.trans s5),by omega,fun kp H6 s6 hkp0 hkp=>?_⟩
   rw [ek] at hbp
   obtain ⟨l1,_,_⟩:=X9 m (by omega)
   have p7:=W4 m7
   have kl:(N7 m (ss.map Rl.d) (F6 m)).length<=128:=Zo_ (Cr m _ (F6 m)) (by omega)
   have bl:(byF (L1 m (ss.map Rl.d))).length<=160:=by
    unfold byF
    rw [Θl,<-ek]
    exact Zo_ (Ia _) (by rw [Θl]; exact lk)
   have kne:=Tj m7 (ss.map Rl.d)
   refine ⟨bp,kp,_,_,rfl,s6 _ _ hbp,hkp,by omega,by omega,kne,fun pp H7 s7 hpp=>?_⟩
   have kyl:=Adu (byF (L1 m (ss.map Rl.d))) (N7 m (ss.map Rl.d) (F6 m))
   refine ⟨_,rfl,pp,_,rfl,SqL.of hpp,by omega,fun lp H8 s8 hlp0 hlp=>?_⟩
   have eP:P4 [] (kyF (byF (L1 m (ss.map Rl.d))) (N7 m (ss.map Rl.d) (F6 m)))=Q5 m (rs.map Rl.d):=by rw [hd]; rfl
   rw [eP] at hlp
   have Uq:Same H2 H8:=((((sS.trans s4).trans s5).trans s6).trans s7).trans s8
   have lp0:H2 lp=none:=((((sS.trans s4).trans s5).trans s6).trans s7).none hlp0
   have lm:((Q5 m (rs.map Rl.d)).map vN).length=(Q5 m (rs.map Rl.d)).length:=Θl ..
   refine ⟨_,rfl,lp,_,rfl,.inl (SqL.of hlp),((Q5 m (rs.map Rl.d)).map vN).length,10,rfl,rfl,_,rfl,E8 (fun hc=>?_) (fun hc=>?_)⟩
   ·have h10:=Zj_ hc
    rw [lm] at h10
    exact ⟨_,rfl,by decide,fun x=>⟨(by show 1<=sizeLine; decide),qe h10 H8 Uq⟩⟩
   ·have h10:(Q5 m (rs.map Rl.d)).length<=10:=by
     have h11:¬10 < ((Q5 m (rs.map Rl.d)).map vN).length:=fun z=>hc (Zr_ z)
     rw [lm] at h11
     omega
    exact ⟨_,rfl,qq h10 lp H8 Uq lp0 hlp⟩
end
end Own
namespace Own
open PySem L2
section
variable {P:Program} {w:World} {K:Θf} {mg:Str->Option Value} {base:Heap}
seal PySem.wpAny
noncomputable abbrev Y9:Stmt:=top 76
theorem scShowSets:FnScope ["names","sets"] ["names","sets"] (A7 Y9):=⟨rfl,rfl,rfl,by decide +kernel,rfl,by decide +kernel,by decide +kernel⟩
theorem Mo {f fSS:Addr} {fd fdSS:FuncData} (F:Fun K "show_sets" "show_sets" Y9 f fd) (GSS:FnOk P w K mg base CX0 4 fSS fdSS ["names","some"] (T0 K)) (mSS:mg "show_set" = some (.ref fSS)) (kSS:Θk K fSS) (bSS:Binds K fdSS ["names","some"] []):FnOk P w K mg base CX0 5 f fd ["names","sets"] (Nf K):=by
 refine F.ok scShowSets (fun vs H Q E h=>?_) (fun cdv A outer s H vs Q E hr h=>?_)
 ·obtain ⟨np,sl,nms,ss,rfl,_⟩:=h
  rfl
 ·obtain ⟨np,sl,nms,ss,rfl,hn,NN,hs,l2,hb,q⟩:=h
  have nd:=scShowSets.nd
  have hr4:Room 4 _:=hr.mono (by decide)
  refine ⟨_,(A4 (A9 (I9 PySem.F.plainAttrs_str PySem.F.slot_str_join PySem.F.type_str_join N3 B9 (A0 (K0 (xs:=["some"]) (cs ["names","sets"] (A7 Y9) rfl rfl (by decide +kernel)) rfl (E3 (K:=K) rfl (pv 1)) (fun _ _ _=>C5 (i:=0) (show (["some","names","sets"]:List Str).Nodup by decide +kernel) rfl (Or.inl rfl)) (fun _ _ _=>K5) (fun _ _ _=>(A8 GSS hr4 rfl mSS kSS bSS .nil B2 (A0 (pv 1) (A0 (pv 0) A1))))) A1)))),?_⟩
  have lr:(ss.map vN).length=ss.length:=Θl ..
  refine ⟨rfl,_,rfl,sl,rfl,⟨_,hs⟩,L6 (K:=K) (xs:=ss.map vN) (fun j acc H'=>Same H H'/\acc=((ss.take j).map (D3 nms)).map V.str) (by omega) ⟨Same.refl _,rfl⟩ (fun j acc H' hj h=>?_) (fun j v acc H' hv h=>?_) (fun acc H' h=>?_)⟩
  ·obtain ⟨s4,rfl⟩:=h
   exact ⟨s4.seq hs,by rw [Θl,Θl]; exact List.length_take_le _ _⟩
  ·obtain ⟨s4,rfl⟩:=h
   rw [Θg] at hv
   cases ec:ss[j]? with
   | none=>rw [ec] at hv; cases hv
   | some z=>
    rw [ec] at hv
    obtain rfl:=(Θo hv).symm
    refine ⟨rfl,_,rfl,_,rfl,np,nms,z,rfl,s4.seq hn,NN,hb z (Θe ec),fun H5 s5=>⟨s4.trans s5,?_⟩⟩
    rw [List.take_succ,ec,Zw_,Zw_]
    rfl
  obtain ⟨s4,rfl⟩:=h
  rw [lr,List.take_length]
  intro l4 hl4
  refine ⟨C8,l4,ss.map (D3 nms),rfl,rfl,SqL.of A3,Q2 (d:=70) (fun x hx=>?_) rfl (by rw [Θl]; omega),?_⟩
  ·obtain ⟨z,hz,rfl⟩:=Θn hx
   exact F0 NN (hb z hz)
  rw [N1]
  exact q _ (s4.trans (Same.new hl4))
noncomputable abbrev Bu:Stmt:=top 77
theorem scShowCov:FnScope ["names","rules","lines"] ["names","rules"] (A7 Bu):=⟨rfl,rfl,rfl,by decide +kernel,rfl,by decide +kernel,by decide +kernel⟩
theorem Ow {f fCV fSR:Addr} {fd fdCV fdSR:FuncData} (F:Fun K "show_cover" "show_cover" Bu f fd) (GCV:FnOk P w K mg base CX0 7 fCV fdCV ["many","rules"] (Gq K)) (mCV:mg "cover" = some (.ref fCV)) (kCV:Θk K fCV) (bCV:Binds K fdCV ["many","rules"] []) (GSR:FnOk P w K mg base CX0 4 fSR fdSR ["names","rule"] (S1 K)) (mSR:mg "show_rule" = some (.ref fSR)) (kSR:Θk K fSR) (bSR:Binds K fdSR ["names","rule"] []) (zlen:mg "len" = none):FnOk P w K mg base CX0 8 f fd ["names","rules"] (Iw K):=by
 refine F.ok scShowCov (fun vs H Q E h=>?_) (fun cdv A outer s H vs Q E hr h=>?_)
 ·obtain ⟨np,rl,nms,rs,rfl,_⟩:=h
  rfl
 ·obtain ⟨np,rl,nms,rs,rfl,hn,NN,hrl,hR,l12,q⟩:=h
  have nd:=scShowCov.nd
  have hr4:Room 4 _:=hr.mono (by decide)
  have hr7:Room 7 _:=hr.mono (by decide)
  refine ⟨_,(A2 (S8 (i:=2) (xs:=["rule"]) (cs ["names","rules","lines"] (A7 Bu) rfl rfl (by decide +kernel)) rfl nd rfl rfl (E3 (K:=K) rfl (A8 GCV hr7 rfl mCV kCV bCV .nil B2 (A0 (D2 (D9 (K:=K) rfl) (by rfl) zlen PySem.boot_len (A0 (pv 0) A1)) (A0 (pv 1) A1)))) (fun _ _ _=>C5 (i:=0) (show (["rule","names","rules","lines"]:List Str).Nodup by decide +kernel) rfl (Or.inl rfl)) (fun _ _ _=>K5) (fun _ _ _=>(A8 GSR hr4 rfl mSR kSR bSR .nil B2 (A0 (pv 1) (A0 (pv 0) A1)))))
   (A2 (D1 (B1 (Yf (K:=K) rfl hr.units) (pv 2) (E5 A1) (C3 _)) (A4 (A9 B9)) C1)
   (A4 (A9 (I9 PySem.F.plainAttrs_str PySem.F.slot_str_join PySem.F.type_str_join N3 B9 (A0 (pv 2) A1)))))),?_⟩
  have l7:=NN.l7
  have ln:(nms.map V.str).length=nms.length:=Θl ..
  refine ⟨_,rfl,np,_,rfl,.inl hn,_,rfl,?_⟩
  rw [ln]
  refine ⟨nms.length,rl,rs,rfl,l7,hrl,hR,by omega,fun ks p H1 ek hK lk s1 hp0 hp=>?_⟩
  have lr:(ks.map fun (r:Rl)=>V.ref r.r).length=ks.length:=Θl ..
  refine ⟨p,rfl,⟨_,SqL.of hp⟩,L6 (K:=K) (xs:=ks.map fun (r:Rl)=>V.ref r.r) (fun j acc H'=>Same H H'/\Same H1 H'/\acc=(((ks.map Rl.d).take j).map (K3 nms)).map V.str) (by omega) ⟨s1,Same.refl _,rfl⟩ (fun j acc H' hj h=>?_) (fun j v acc H' hv h=>?_) (fun acc H' h=>?_)⟩
  ·obtain ⟨s4,s5,rfl⟩:=h
   exact ⟨s5.seq (SqL.of hp),by rw [Θl,Θl]; exact List.length_take_le _ _⟩
  ·obtain ⟨s4,s5,rfl⟩:=h
   rw [Θg] at hv
   cases ec:ks[j]? with
   | none=>rw [ec] at hv; cases hv
   | some r=>
    rw [ec] at hv
    obtain rfl:=(Θo hv).symm
    have hr':=hK r (Θe ec)
    refine ⟨rfl,_,rfl,_,rfl,np,nms,r,rfl,s4.seq hn,NN,s5 _ _ hr'.1,hr'.2,fun H5 s6=>⟨s4.trans s6,s5.trans s6,?_⟩⟩
    rw [List.take_succ,Θg,ec,Zw_,Zw_]
    rfl
  obtain ⟨s4,s5,rfl⟩:=h
  have et:(ks.map Rl.d).take (ks.map fun (r:Rl)=>V.ref r.r).length=ks.map Rl.d:=List.take_of_length_le (by rw [lr,Θl]; exact Zd_ _)
  rw [et]
  intro l4 hl4
  have s6:=s4.trans (Same.new (o:=.lst (((ks.map Rl.d).map (K3 nms)).map V.str)) hl4)
  have h6:(upd H' l4 (.lst (((ks.map Rl.d).map (K3 nms)).map V.str))) l4=some (.lst (((ks.map Rl.d).map (K3 nms)).map V.str)):=A3
  generalize upd H' l4 (.lst (((ks.map Rl.d).map (K3 nms)).map V.str))=H6 at s6 h6
  have hin:∀r∈ks.map Rl.d,InR nms r:=Br hK
  have ok:∀x∈(ks.map Rl.d).map (K3 nms),(∀c∈x.cps.toList,okT c)/\x.length<=150:=fun x hx=>X1 NN hin x (Θd _ hx)
  refine ⟨_,rfl,(by show 0<=sizeLine; decide),fun e0 he0=>?_⟩
  have s7:=s6.trans (Same.new (o:=.lst []) he0)
  have h7:=(Same.new (o:=.lst []) he0) _ _ h6
  have h0:(upd H6 e0 (.lst [])) e0=some (.lst []):=A3
  generalize upd H6 e0 (.lst [])=H7 at s7 h0 h7
  refine ⟨.list (((ks.map Rl.d).map (K3 nms)).map PyData.str),.list (([]:List Str).map PyData.str),.lst (SqL.of h7) (Ky _),.lst (SqL.of h0) .nil,S9 (fun x hx c hc=>(by have:=(ok x hx).1 c hc; unfold okT at this; omega)),S9 (fun w hw=>absurd hw List.not_mem_nil),Fv Mg _ _,_,rfl,?_⟩
  rw [if_neg Zf_,Ip Rn]
  have q1:=q H7 s7
  unfold Ade at q1
  rw [<-ek] at q1
  refine E8 (fun hc=>?_) (fun hc=>?_)
  ·have e:(ks.map Rl.d).map (K3 nms)=[]:=Zj_ hc
   rw [if_pos (List.map_eq_nil_iff.mp e)] at q1
   exact q1
  ·have ne:ks.map Rl.d≠[]:=fun e=>hc (Zr_ (by rw [e]; rfl))
   rw [if_neg ne] at q1
   refine ⟨rfl,_,rfl,Acz,l4,(ks.map Rl.d).map (K3 nms),rfl,rfl,SqL.of h7,Wv (d:=150) (e:=2) (fun x hx=>(ok x hx).2) rfl (by rw [Θl,Θl]; omega),?_⟩
   rw [N1]
   exact q1
end
end Own
namespace Own
open PySem L2
section
variable {P:Program} {w:World} {K:Θf} {mg:Str->Option Value} {base:Heap}
seal PySem.wpAny
noncomputable abbrev Km:Stmt:=top 78
theorem scPaper:FnScope ["names","paper"] ["names","paper"] (A7 Km):=⟨rfl,rfl,rfl,by decide +kernel,rfl,by decide +kernel,by decide +kernel⟩
theorem Xz {f fSS:Addr} {fd fdSS:FuncData} (F:Fun K "show_paper" "show_paper" Km f fd) (GSS:FnOk P w K mg base CX0 4 fSS fdSS ["names","some"] (T0 K)) (mSS:mg "show_set" = some (.ref fSS)) (kSS:Θk K fSS) (bSS:Binds K fdSS ["names","some"] []) (zstr:mg "str" = none):FnOk P w K mg base CX0 5 f fd ["names","paper"] (Rw K):=by
 refine F.ok scPaper (fun vs H Q E h=>?_) (fun cdv A outer s H vs Q E hr h=>?_)
 ·obtain ⟨np,t,nms,o,l,rfl,_⟩:=h
  rfl
 ·obtain ⟨np,t,nms,o,l,rfl,hn,NN,hP,hb,hl,q⟩:=h
  have nd:=scPaper.nd
  have hr4:Room 4 _:=hr.mono (by decide)
  refine ⟨_,(A2 (D1 (B1 op_eq (C4 (C2 (K:=K) rfl) (pv 1) A5 (fun _ _=>rfl)) B9 (C3 _)) (A4 (A9 (B0 D7 B9 (A8 GSS hr4 rfl mSS kSS bSS .nil B2 (A0 (pv 0) (A0 (C4 (C2 (K:=K) rfl) (pv 1) A5 (fun _ _=>rfl)) A1)))))) C1)
   (A4 (A9 (I9 PySem.F.plainAttrs_str PySem.F.slot_str_join PySem.F.type_str_join N3 B9 (A0 (B0 K6 (E5 (A0 B9 A1)) (K0 (xs:=["step"]) (cs ["names","paper"] (A7 Km) rfl rfl (by decide +kernel)) rfl (E3 (K:=K) rfl (C4 (C2 (K:=K) rfl) (pv 1) A5 (fun _ _=>rfl))) (fun _ _ _=>C5 (i:=0) (show (["step","names","paper"]:List Str).Nodup by decide +kernel) rfl (Or.inl rfl)) (fun _ _ _=>K5) (fun _ _ _=>(O8 V1 (by rfl) zstr PyProof.Rows.boot_str (A0 (C4 (C2 (K:=K) rfl) (pv 0) A5 (fun _ _=>rfl)) A1))))) A1))))),?_⟩
  rcases hP with ⟨b,rfl,ht⟩ | ⟨rfl,qa,sw,ht,hq,hS,ew,lw⟩
  ·refine ⟨_,rfl,t,_,_,_,rfl,rfl,SqT.of ht,A6 (j:=0) (v:=V.str "no") rfl,rfl,_,rfl,N9 ?_⟩
   refine ⟨_,rfl,_,rfl,t,_,_,_,rfl,rfl,SqT.of ht,A6 (j:=1) (v:=vN b) rfl,np,nms,b,rfl,hn,NN,hb b rfl,fun H1 s1=>?_⟩
   have sl:=F0 NN (hb b rfl)
   have sz:=sizeLine_eq
   exact ⟨_,_,rfl,rfl,by show 3 + _<=sizeLine; omega,q H1 s1⟩
  ·refine ⟨_,rfl,t,_,_,_,rfl,rfl,SqT.of ht,A6 (j:=0) (v:=V.str "yes") rfl,rfl,_,rfl,E7 ?_⟩
   refine ⟨rfl,(by show 1<=sizeLine; decide),fun l1 hl1=>?_⟩
   have s1:=Same.new (o:=.lst [V.str (Str.ofString "yes")]) hl1
   have h1:(upd H l1 (.lst [V.str (Str.ofString "yes")])) l1=some (.lst [V.str (Str.ofString "yes")]):=A3
   generalize upd H l1 (.lst [V.str (Str.ofString "yes")])=H1 at s1 h1
   have lr:(sw.map fun w=>V.ref w.1).length=sw.length:=Θl ..
   refine ⟨_,rfl,t,_,_,_,rfl,rfl,SqT.of (s1 _ _ ht),A6 (j:=1) (v:=.ref qa) rfl,qa,rfl,⟨_,SqL.of (s1 _ _ hq)⟩,L6 (K:=K) (xs:=sw.map fun w=>V.ref w.1) (fun j acc H'=>Same H H'/\H' l1=some (.lst [V.str (Str.ofString "yes")])/\acc=(((sw.map (·.2)).take j).map fun p=>Q3 p.1).map V.str) (by omega) ⟨s1,h1,rfl⟩ (fun j acc H' hj h=>?_) (fun j v acc H' hv h=>?_) (fun acc H' h=>?_)⟩
   ·obtain ⟨s4,h4,rfl⟩:=h
    exact ⟨SqL.of (s4 _ _ hq),by rw [Θl,Θl]; exact List.length_take_le _ _⟩
   ·obtain ⟨s4,h4,rfl⟩:=h
    rw [Θg] at hv
    cases ec:sw[j]? with
    | none=>rw [ec] at hv; cases hv
    | some z=>
     rw [ec] at hv
     obtain rfl:=(Θo hv).symm
     have hm:=Θe ec
     have hz:=hl z.2 (by rw [<-ew]; exact List.mem_map_of_mem hm)
     refine ⟨rfl,_,rfl,z.1,_,_,_,rfl,rfl,SqT.of (s4 _ _ (hS z hm)),A6 (j:=0) (v:=vN z.2.1) rfl,_,rfl,?_,s4,h4,?_⟩
     ·show Nat.log2 z.2.1 < 1920
      exact Nat.lt_of_le_of_lt (Nat.log2_le_self _) (by omega)
     rw [List.take_succ,Θg,ec,Zw_,Zw_]
     rfl
   obtain ⟨s4,h4,rfl⟩:=h
   rw [lr,List.take_of_length_le (by rw [Θl]; exact Zd_ _),ew]
   intro l4 hl4
   have s5:=Same.new (o:=.lst ((l.map fun p=>Q3 p.1).map V.str)) hl4
   have h5:(upd H' l4 (.lst ((l.map fun p=>Q3 p.1).map V.str))) l4=some (.lst ((l.map fun p=>Q3 p.1).map V.str)):=A3
   have h45:=s5 _ _ h4
   replace s5:=s4.trans s5
   generalize upd H' l4 (.lst ((l.map fun p=>Q3 p.1).map V.str))=H5 at s5 h5 h45
   have ll:l.length<=300:=by rw [<-ew,Θl]; exact lw
   refine ⟨l1,l4,_,_,rfl,rfl,h45,h5,Nat.le_of_lt (D0 (by rw [Θl,Θl]; show 1 + _<=1000; omega)),fun l5 hl5=>?_⟩
   refine ⟨C8,l5,Str.ofString "yes" :: l.map fun p=>Q3 p.1,rfl,rfl,SqL.of A3,Q2 (d:=4) (fun x hx=>?_) rfl (by rw [ZA,Θl]; omega),?_⟩
   ·rcases Zg_.mp hx with rfl | hx
    ·decide
    ·obtain ⟨p,hp,rfl⟩:=Θn hx
     exact Qx (hl p hp)
   rw [N1]
   exact q _ (s5.trans (Same.new hl5))
noncomputable abbrev Zg:Stmt:=top 79
theorem scTold:FnScope ["names","told","good"] ["names","told","good"] (A7 Zg):=⟨rfl,rfl,rfl,by decide +kernel,rfl,by decide +kernel,by decide +kernel⟩
theorem Abv {f fSS:Addr} {fd fdSS:FuncData} (F:Fun K "show_told" "show_told" Zg f fd) (GSS:FnOk P w K mg base CX0 4 fSS fdSS ["names","some"] (T0 K)) (mSS:mg "show_set" = some (.ref fSS)) (kSS:Θk K fSS) (bSS:Binds K fdSS ["names","some"] []):FnOk P w K mg base CX0 5 f fd ["names","told","good"] (Sd K):=by
 refine F.ok scTold (fun vs H Q E h=>?_) (fun cdv A outer s H vs Q E hr h=>?_)
 ·obtain ⟨np,t,nms,good,bad,o,rfl,_⟩:=h
  rfl
 ·obtain ⟨np,t,nms,good,bad,o,rfl,hn,NN,hT,gb,bl,hb,q⟩:=h
  have nd:=scTold.nd
  have hr4:Room 4 _:=hr.mono (by decide)
  refine ⟨_,(A2 (D1 (B1 op_eq (C4 (C2 (K:=K) rfl) (pv 1) A5 (fun _ _=>rfl)) (pv 2) (C3 _)) (A4 (A9 (pv 2))) C1)
   (A4 (A9 (B0 D7 (B0 D7 (C4 (C2 (K:=K) rfl) (pv 1) A5 (fun _ _=>rfl)) B9) (A8 GSS hr4 rfl mSS kSS bSS .nil B2 (A0 (pv 0) (A0 (C4 (C2 (K:=K) rfl) (pv 1) A5 (fun _ _=>rfl)) A1))))))),?_⟩
  rcases hT with ⟨rfl,v,ht⟩ | ⟨b,rfl,ht⟩
  ·refine ⟨_,rfl,t,_,_,_,rfl,rfl,SqT.of ht,A6 (j:=0) (v:=V.str good) rfl,_,rfl,rfl,_,rfl,?_⟩
   rw [Zr_ rfl]
   exact N9 ⟨_,rfl,q H (Same.refl _)⟩
  ·refine ⟨_,rfl,t,_,_,_,rfl,rfl,SqT.of ht,A6 (j:=0) (v:=V.str bad) rfl,_,rfl,rfl,_,rfl,?_⟩
   rw [decide_eq_false (fun e=>gb (by injection e with e; exact e.symm))]
   refine E7 ?_
   have sl:=F0 NN (hb b rfl)
   have sz:=sizeLine_eq
   refine ⟨_,rfl,t,_,_,_,rfl,rfl,SqT.of ht,A6 (j:=0) (v:=V.str bad) rfl,bad,_,rfl,rfl,(by show _ + 1<=sizeLine; omega),_,rfl,_,rfl,t,_,_,_,rfl,rfl,SqT.of ht,A6 (j:=1) (v:=vN b) rfl,np,nms,b,rfl,hn,NN,hb b rfl,fun H1 s1=>⟨_,_,rfl,rfl,?_,q H1 s1⟩⟩
   rw [Str.length_append]
   show _ + 1 + _<=sizeLine
   omega
noncomputable abbrev Gm:Stmt:=top 75
theorem scWordsOf:FnScope ["row"] ["row"] (A7 Gm):=⟨rfl,rfl,rfl,by decide +kernel,rfl,by decide +kernel,by decide +kernel⟩
theorem Oz {f:Addr} {fd:FuncData} (F:Fun K "words_of" "words_of" Gm f fd) (zisinstance:mg "isinstance" = none) (zstr:mg "str" = none):FnOk P w K mg base CX0 1 f fd ["row"] (Z2 K):=by
 refine F.ok scWordsOf (fun vs H Q E h=>?_) (fun cdv A outer s H vs Q E hr h=>?_)
 ·obtain ⟨z,rfl,_⟩:=h
  rfl
 ·obtain ⟨z,rfl,lz,q⟩:=h
  have nd:=scWordsOf.nd
  refine ⟨_,(A2 (D1 (R9 (K8 (D2 (Fg (K:=K) rfl) (by rfl) zisinstance PyProof.Rows.boot_isinstance (A0 (pv 0) (A0 (Jx (v:=.ty "str") rfl zstr PyProof.Rows.boot_str rfl) A1))))) (A4 M8) C1)
   (A4 (A9 (I9 PySem.F.plainAttrs_str PySem.F.slot_str_split PySem.F.type_str_split Y5 (pv 0) (A0 B9 A1))))),?_⟩
  refine ⟨_,rfl,_,_,_,true,rfl,.str _,rfl,_,rfl,E7 ?_⟩
  have sl:(Txt.split z C8).length<=z.length + 1:=Py z 32
  refine ⟨_,rfl,rfl,z,C8,rfl,rfl,rfl,by omega,by omega,fun ll hll=>?_⟩
  exact q ll _ (Same.new hll) hll A3
end
end Own
namespace Own
open PySem L2
section
variable {P:Program} {w:World} {K:Θf} {mg:Str->Option Value} {base:Heap}
seal PySem.wpAny
noncomputable abbrev Kb:Stmt:=top 36
theorem scAgain:FnScope ["many","rules","part","some","told","gained","pieces"] ["many","rules","part","some"] (A7 Kb):=⟨rfl,rfl,rfl,by decide +kernel,rfl,by decide +kernel,by decide +kernel⟩
theorem Xn {f fUN fIW:Addr} {fd fdUN fdIW:FuncData} (F:Fun K "told_again" "told_again" Kb f fd) (GUN:FnOk P w K mg base CX0 3 fUN fdUN ["many","rules","some"] (S3 K)) (mUN:mg "unfolded" = some (.ref fUN)) (kUN:Θk K fUN) (bUN:Binds K fdUN ["many","rules","some"] []) (GIW:FnOk P w K mg base CX0 1 fIW fdIW ["one","other"] S4) (mIW:mg "is_within" = some (.ref fIW)) (kIW:Θk K fIW) (bIW:Binds K fdIW ["one","other"] []) (zlen:mg "len" = none):FnOk P w K mg base CX0 4 f fd ["many","rules","part","some"] (Ro K):=by
 refine F.ok scAgain (fun vs H Q E h=>?_) (fun cdv A outer s H vs Q E hr h=>?_)
 ·obtain ⟨m,p,x,rl,rs,rfl,_⟩:=h
  rfl
 ·obtain ⟨m,p,x,rl,rs,rfl,m7,hx,hrl,hRs,lr,q⟩:=h
  have nd:=scAgain.nd
  have hr1:Room 1 _:=hr.mono (by decide)
  have hr3:Room 3 _:=hr.mono (by decide)
  refine ⟨_,(A2 (C0 (i:=4) nd rfl (Or.inl rfl) (A8 GUN hr3 rfl mUN kUN bUN .nil B2 (A0 (pv 0) (A0 (pv 1) (A0 (pv 3) A1)))))
   (A2 (D1 (K8 (A8 GIW hr1 rfl mIW kIW bIW .nil B2 (A0 (pv 2) (A0 (C4 (C2 (K:=K) rfl) (pv 4) A5 (fun _ _=>rfl)) A1)))) (A4 (A9 F5)) C1)
   (A2 (C0 (i:=5) nd rfl (Or.inl rfl) (B0 P7 (B0 O4 (pv 2) (C4 (C2 (K:=K) rfl) (pv 4) A5 (fun _ _=>rfl))) (Ga Av (pv 3))))
   (A2 (D1 (B1 X3 (pv 5) A5 (C3 _)) (A4 (A9 (pv 5))) C1)
   (A2 (S8 (i:=6) (xs:=["block"]) (cs ["many","rules","part","some","told","gained","pieces"] (A7 Kb) rfl rfl (by decide +kernel)) rfl nd rfl rfl (E3 (K:=K) rfl (C4 (C2 (K:=K) rfl) (pv 4) A5 (fun _ _=>rfl))) (fun _ _ _=>C5 (i:=0) (show (["block","many","rules","part","some","told","gained","pieces"]:List Str).Nodup by decide +kernel) rfl (Or.inl rfl)) (fun _ _ _=>(R1 (B1 X3 (B0 O4 (pv 0) (pv 3)) A5 (C3 _)))) (fun _ _ _=>(B0 O4 (pv 0) (pv 3))))
   (A2 (D1 (B1 T5 (D2 (D9 (K:=K) rfl) (by rfl) zlen PySem.boot_len (A0 (pv 6) A1)) A5 (C3 _)) (A4 (A9 (C4 (C9 (K:=K) rfl) (pv 6) A5 (fun _ _=>rfl)))) C1)
   (A4 (A9 F5)))))))),?_⟩
  refine ⟨_,rfl,_,rfl,_,rfl,m,x,rl,rs,rfl,m7,hx,hrl,hRs,lr,fun t pb qb s sw H1 R s1 ht0 ht hp0 hp _ _ _ _ _ _=>?_⟩
  have eU:=R.unfF
  have G:=(R.good (Good.begin hx)).1
  have ea:Ab m (rs.map Rl.d) p x=if p&&&s.fx=p then none else if (p&&&s.fx) - ((p&&&s.fx)&&&x)≠0 then some ((p&&&s.fx) - ((p&&&s.fx)&&&x)) else if 1 < (K1 p s.bs).length then (K1 p s.bs).head? else none:=by
   unfold Ab Ej
   rw [eU]
  refine ⟨_,rfl,_,rfl,t,_,_,_,rfl,rfl,SqT.of ht,A6 (j:=0) rfl,p,s.fx,rfl,_,rfl,E8 (fun hb=>?_) (fun hb=>?_)⟩
  ·have z:=q H1 s1
   rw [ea,if_pos (Zj_ hb)] at z
   exact z
  have n1:¬p&&&s.fx=p:=fun z=>hb (Zr_ z)
  rw [if_neg n1] at ea
  refine ⟨_,rfl,_,rfl,t,_,_,_,rfl,rfl,SqT.of ht,A6 (j:=0) rfl,p,s.fx,rfl,rfl,_,rfl,(x:Int),rfl,p&&&s.fx,x,rfl,rfl,?_⟩
  refine ⟨_,rfl,(p&&&s.fx) - ((p&&&s.fx)&&&x),0,rfl,rfl,_,rfl,E8 (fun hc=>?_) (fun hc=>?_)⟩
  ·have n2:(p&&&s.fx) - ((p&&&s.fx)&&&x)≠0:=fun z=>by rw [Zr_ z] at hc; cases hc
   have z:=q H1 s1
   rw [ea,if_pos n2] at z
   exact ⟨_,rfl,z⟩
  have n2:¬(p&&&s.fx) - ((p&&&s.fx)&&&x)≠0:=fun z=>hc (by rw [decide_eq_false z]; rfl)
  rw [if_neg n2] at ea
  have bl:=G.len m7
  refine ⟨_,rfl,t,_,_,_,rfl,rfl,SqT.of ht,A6 (j:=1) rfl,pb,rfl,⟨_,SqL.of hp⟩,L6 (K:=K) (xs:=s.bs.map vN) (fun k acc H3=>H3=H1/\acc=(K1 p (s.bs.take k)).map vN) (by rw [Θl]; omega) ⟨rfl,rfl⟩ (fun k acc H3 hk h=>?_) (fun k u acc H3 hu h=>?_) (fun acc H3 h=>?_)⟩
  ·obtain ⟨rfl,rfl⟩:=h
   exact ⟨SqL.of hp,by rw [Θl]; exact Nq p _ k⟩
  ·obtain ⟨rfl,rfl⟩:=h
   rw [Θg] at hu
   cases eb:s.bs[k]? with
   | none=>rw [eb] at hu; cases hu
   | some b=>
    rw [eb] at hu
    obtain rfl:=(Θo hu).symm
    refine ⟨rfl,_,rfl,_,rfl,b,p,rfl,rfl,b&&&p,0,rfl,rfl,_,rfl,E8 (fun hd=>?_) (fun hd=>?_)⟩
    ·have z:¬b&&&p=0:=fun z=>by rw [Zr_ z] at hd; cases hd
     refine ⟨_,rfl,_,rfl,b,p,rfl,rfl,rfl,?_⟩
     rw [Dq eb,if_neg z,Zw_]; rfl
    ·have z:b&&&p=0:=Classical.byContradiction fun z=>hd (by rw [decide_eq_false z]; rfl)
     refine ⟨rfl,?_⟩
     rw [Dq eb,if_pos z,List.append_nil]
  ·obtain ⟨rfl,rfl⟩:=h
   rw [Θl,List.take_length]
   intro lp hlp
   have sL:=s1.trans (Same.new (o:=.lst ((K1 p s.bs).map vN)) hlp)
   have hlp':(upd H3 lp (.lst ((K1 p s.bs).map vN))) lp=some (.lst ((K1 p s.bs).map vN)):=A3
   have z:=q _ sL
   generalize upd H3 lp (.lst ((K1 p s.bs).map vN))=H4 at hlp' z
   rw [ea] at z
   refine ⟨_,rfl,lp,_,rfl,.inl (SqL.of hlp'),((K1 p s.bs).map vN).length,1,rfl,rfl,_,rfl,E8 (fun he=>?_) (fun he=>?_)⟩
   ·have he':=Zj_ he
    rw [Θl] at he'
    rw [if_pos he'] at z
    revert hlp' z he'
    match K1 p s.bs with
    | []=>intro _ _ h; exact absurd h (by decide)
    | g :: l=>
     intro hlp' z _
     exact ⟨_,rfl,lp,_,_,_,rfl,rfl,SqL.of hlp',A6 (j:=0) rfl,z⟩
   ·have he':¬1 < (K1 p s.bs).length:=fun w=>he (Zr_ (by rw [Θl]; exact w))
    rw [if_neg he'] at z
    exact z
noncomputable abbrev Pp:Stmt:=top 37
theorem scTwice:FnScope ["many","rules","part","level","some","again"] ["many","rules","part"] (A7 Pp):=⟨rfl,rfl,rfl,by decide +kernel,rfl,by decide +kernel,by decide +kernel⟩
theorem Ye {f fTA fMO:Addr} {fd fdTA fdMO:FuncData} (F:Fun K "twice" "twice" Pp f fd) (GTA:FnOk P w K mg base CX0 4 fTA fdTA ["many","rules","part","some"] (Ro K)) (mTA:mg "told_again" = some (.ref fTA)) (kTA:Θk K fTA) (bTA:Binds K fdTA ["many","rules","part","some"] []) (GMO:FnOk P w K mg base CX0 3 fMO fdMO ["sets","some"] Kw) (mMO:mg "with_one_more" = some (.ref fMO)) (kMO:Θk K fMO) (bMO:Binds K fdMO ["sets","some"] []):FnOk P w K mg base CX0 5 f fd ["many","rules","part"] (Se K):=by
 refine F.ok scTwice (fun vs H Q E h=>?_) (fun cdv A outer s H vs Q E hr h=>?_)
 ·obtain ⟨m,p,rl,rs,rfl,_⟩:=h
  rfl
 ·obtain ⟨m,p,rl,rs,rfl,m7,hp,hrl,hRs,lr,q⟩:=h
  have nd:=scTwice.nd
  have hr4:Room 4 _:=hr.mono (by decide)
  have hr3:Room 3 _:=hr.mono (by decide)
  have p7:p < 128:=Zq_ hp (W4 m7)
  refine ⟨_,(A2 (C0 (i:=3) nd rfl (Or.inl rfl) (E5 (A0 A5 A1)))
   (A2 (U9 PassesOwn.never (B1 (Ra (K:=K) rfl hr.units) (pv 3) (E5 A1) (C3 _)) (A2 (K7 PassesOwn.never rfl (E3 (K:=K) rfl (pv 3)) (C5 (i:=4) nd rfl (Or.inl rfl)) (A2 (C0 (i:=5) nd rfl (Or.inl rfl) (A8 GTA hr4 rfl mTA kTA bTA .nil B2 (A0 (pv 0) (A0 (pv 1) (A0 (pv 2) (A0 (pv 4) A1))))))
   (A4 (D1 (B1 Jv (pv 5) F5 (C3 _)) (A4 (A9 (F2 (A0 (pv 4) (A0 (pv 5) A1))))) C1))))
   (A4 (C0 (i:=3) nd rfl (Or.inl rfl) (A8 GMO hr3 rfl mMO kMO bMO .nil B2 (A0 (pv 3) (A0 (pv 2) A1)))))))
   (A4 (A9 F5)))),?_⟩
  refine ⟨(by show 1<=sizeLine; decide),fun l0 hl0=>?_⟩
  have s1:=Same.new (o:=.lst [V.int 0]) hl0
  have hl1:(upd H l0 (.lst [V.int 0])) l0=some (.lst ((F1 p 0).map vN)):=by rw [A3,Mv p p7]; rfl
  refine ⟨fun n σ H'=>∃(i:Nat) (lp:Addr) (v4 v5:Option V),σ=[some (vN m),some (.ref rl),some (vN p),some (.ref lp),v4,v5]/\n=8 - i/\i<=8/\Same H H'/\(T9 p i).findSome? (Z6 m (rs.map Rl.d) p)=none/\H' lp=some (.lst ((F1 p i).map vN)),⟨_,0,l0,none,none,rfl,rfl,by omega,s1,rfl,hl1⟩,?_⟩
  rintro n _ H1 ⟨i,lp,v4,v5,rfl,en,hi,s2,u0,hl2⟩
  have mi:=Ep (F1 p i)
  refine ⟨_,rfl,Zp_ _,fun np hnp=>?_⟩
  have sN:=Same.new (o:=.lst []) hnp
  refine ⟨lp,np,(F1 p i).map fun (k:Nat)=>(k:Int),[],rfl,rfl,SqL.of (by rw [mi]; exact sN _ _ hl2),SqL.of A3,_,rfl,?_⟩
  have hl3:=sN _ _ hl2
  have s3:=s2.trans sN
  generalize upd H1 np (.lst [])=H3 at hl3 s3
  rw [if_pos rfl]
  refine E8 (fun hb=>?_) (fun hb=>?_)
  ·have hne:F1 p i≠[]:=fun z=>by
    rw [z] at hb
    cases hb
   have hi8:i < 8:=by
    rcases Nat.lt_or_ge i 8 with h | h
    ·exact h
    ·have:i=8:=by omega
     rw [this,Mu p p7] at hne
     exact absurd rfl hne
   refine ⟨_,fun _ _ h=>h,?_⟩
   refine ⟨_,rfl,lp,rfl,⟨_,SqL.of hl3⟩,M6 (K:=K) (xs:=(F1 p i).map vN) (fun j σ H'=>(∃v4 v5:Option V,σ=[some (vN m),some (.ref rl),some (vN p),some (.ref lp),v4,v5])/\Same H3 H'/\((F1 p i).take j).findSome? (Z6 m (rs.map Rl.d) p)=none) ⟨⟨_,_,rfl⟩,Same.refl _,rfl⟩ (fun j σ H' _ h=>SqL.of (h.2.1 _ _ hl3)) ?_ ?_⟩
   ·rintro j v σ H4 hv ⟨⟨v4,v5,rfl⟩,s4,u1⟩
    rw [Θg] at hv
    cases ex:(F1 p i)[j]? with
    | none=>rw [ex] at hv; cases hv
    | some x=>
     rw [ex] at hv
     obtain rfl:=(Θo hv).symm
     have hx:x < 2 ^ m:=by
      have h1:=Acb (Θe ex)
      have h2:x&&&p<=p:=Nat.and_le_right
      rw [h1] at h2
      omega
     have s34:=s3.trans s4
     refine ⟨_,rfl,_,rfl,_,rfl,_,rfl,m,p,x,rl,rs,rfl,m7,hx,s34.seq hrl,hRs.same s34,lr,fun H5 s5=>?_⟩
     cases eg:Ab m (rs.map Rl.d) p x with
     | none=>
      refine ⟨_,rfl,rfl,_,rfl,E7 ?_⟩
      exact ⟨⟨_,_,rfl⟩,s4.trans s5,Acm u1 ex (by unfold Z6; rw [eg]; rfl)⟩
     | some g=>
      refine ⟨_,rfl,rfl,_,rfl,N9 ?_⟩
      refine ⟨_,rfl,_,rfl,(by show 2<=sizeLine; decide),fun t ht=>?_⟩
      exact q _ _ ((s34.trans s5).trans (Same.new ht)) (by rw [Afc u0 u1 hi8 ex (u:=(x,g)) (by unfold Z6; rw [eg]; rfl)]; exact ⟨t,rfl,A3⟩)
   ·rintro σ H4 ⟨⟨v4,v5,rfl⟩,s4,u1⟩
    rw [Θl] at u1
    refine ⟨_,rfl,_,rfl,lp,p,i,rfl,p7,hi8,s4 _ _ hl3,fun l H5 s5 hl50 hl5=>?_⟩
    exact ⟨8 - (i + 1),by omega,i + 1,l,_,_,rfl,rfl,by omega,(s3.trans s4).trans s5,Aah u0 u1 (Zd_ _),hl5⟩
  ·have hz:F1 p i=[]:=by
    cases z:F1 p i with
    | nil=>rfl
    | cons x xs=>exact absurd (by rw [z]; rfl) hb
   exact q _ _ s3 (by rw [Acn p7 (by omega) u0 hz]; rfl)
noncomputable abbrev Zi:Stmt:=top 38
theorem scTree:FnScope ["many","rules","part","found","one","other"] ["many","rules","part"] (A7 Zi):=⟨rfl,rfl,rfl,by decide +kernel,rfl,by decide +kernel,by decide +kernel⟩
theorem Qz {f fTW:Addr} {fd fdTW:FuncData} (F:Fun K "tree_of" "tree_of" Zi f fd) (GTW:FnOk P w K mg base CX0 5 fTW fdTW ["many","rules","part"] (Se K)) (mTW:mg "twice" = some (.ref fTW)) (kTW:Θk K fTW) (bTW:Binds K fdTW ["many","rules","part"] []) (mTR:mg "tree_of" = some (.ref f)) (kTR:Θk K f) (bTR:Binds K fd ["many","rules","part"] []):∀n:Nat,FnOk P w K mg base CX0 (n + 6) f fd ["many","rules","part"] (Aaa K n)
 | 0=>by
  refine F.ok (k:=5) scTree (fun vs H Q E h=>?_) (fun cdv A outer s H vs Q E hr h=>?_)
  ·obtain ⟨m,p,rl,rs,rfl,_⟩:=h
   rfl
  ·obtain ⟨m,p,rl,rs,rfl,m7,hp,hn,_⟩:=h
   exact absurd hn (Nat.not_lt_zero _)
 | n + 1=>by
  have GTR:=Qz F GTW mTW kTW bTW mTR kTR bTR n
  refine F.ok (k:=n + 6) scTree (fun vs H Q E h=>?_) (fun cdv A outer s H vs Q E hr h=>?_)
  ·obtain ⟨m,p,rl,rs,rfl,_⟩:=h
   rfl
  obtain ⟨m,p,rl,rs,rfl,m7,hp,hn,hrl,hRs,lr,q⟩:=h
  have nd:=scTree.nd
  have hr5:Room 5 _:=hr.mono (by omega)
  refine ⟨_,(A2 (C0 (i:=3) nd rfl (Or.inl rfl) (A8 GTW hr5 rfl mTW kTW bTW .nil B2 (A0 (pv 0) (A0 (pv 1) (A0 (pv 2) A1)))))
   (A2 (D1 (B1 V8 (pv 3) F5 (C3 _)) (A4 (A9 (F2 (A0 B9 (A0 (pv 2) A1))))) C1)
   (A2 (C0 (i:=4) nd rfl (Or.inl rfl) (A8 GTR hr rfl mTR kTR bTR .nil B2 (A0 (pv 0) (A0 (pv 1) (A0 (B0 X4 (C4 (C2 (K:=K) rfl) (pv 3) A5 (fun _ _=>rfl)) (C4 (C2 (K:=K) rfl) (pv 3) A5 (fun _ _=>rfl))) A1)))))
   (A2 (C0 (i:=5) nd rfl (Or.inl rfl) (A8 GTR hr rfl mTR kTR bTR .nil B2 (A0 (pv 0) (A0 (pv 1) (A0 (B0 P7 (pv 2) (Ga Av (C4 (C2 (K:=K) rfl) (pv 3) A5 (fun _ _=>rfl)))) A1)))))
   (A4 (A9 (F2 (A0 B9 (A0 (pv 2) (A0 (C4 (C2 (K:=K) rfl) (pv 3) A5 (fun _ _=>rfl)) (A0 (C4 (C2 (K:=K) rfl) (pv 3) A5 (fun _ _=>rfl)) (A0 (pv 4) (A0 (pv 5) A1))))))))))))),?_⟩
  refine ⟨_,rfl,_,rfl,_,rfl,m,p,rl,rs,rfl,m7,hp,hrl,hRs,lr,fun v H1 s1 hv=>?_⟩
  cases e:twF m (rs.map Rl.d) p with
  | none=>
   rw [e] at hv
   obtain rfl:=(show v=V.non from hv)
   refine ⟨_,rfl,rfl,_,rfl,N9 ?_⟩
   refine ⟨_,rfl,(by show 2<=sizeLine; decide),fun t ht=>?_⟩
   exact q _ _ (s1.trans (Same.new ht)) (by rw [Gz e]; exact ⟨t,rfl,A3⟩)
  | some u=>
   rw [e] at hv
   obtain ⟨a,rfl,ha⟩:=hv
   have z:=Nj hp e
   have z1:=z.one
   have z2:=z.oth
   refine ⟨_,rfl,rfl,_,rfl,E7 ?_⟩
   refine ⟨_,rfl,_,rfl,_,rfl,a,_,_,_,rfl,rfl,SqT.of ha,A6 (j:=0) rfl,_,rfl,a,_,_,_,rfl,rfl,SqT.of ha,A6 (j:=1) rfl,u.1,u.2,rfl,rfl,m,u.1|||u.2,rl,rs,rfl,m7,by omega,by omega,s1.seq hrl,hRs.same s1,lr,fun v1 H2 s2 t1=>?_⟩
   have ha2:=s2 _ _ ha
   have s12:=s1.trans s2
   refine ⟨_,rfl,_,rfl,_,rfl,_,rfl,a,_,_,_,rfl,rfl,SqT.of ha2,A6 (j:=1) rfl,(u.2:Int),rfl,p,u.2,rfl,rfl,m,p - (p&&&u.2),rl,rs,rfl,m7,by omega,by omega,s12.seq hrl,hRs.same s12,lr,fun v2 H3 s3 t2=>?_⟩
   have ha3:=s3 _ _ ha2
   refine ⟨_,rfl,_,rfl,a,_,_,_,rfl,rfl,SqT.of ha3,A6 (j:=0) rfl,_,rfl,a,_,_,_,rfl,rfl,SqT.of ha3,A6 (j:=1) rfl,_,rfl,_,rfl,(by show 6<=sizeLine; decide),fun t ht=>?_⟩
   have sn:=Same.new (o:=.tup [.str "cut",vN p,vN u.1,vN u.2,v1,v2]) ht
   exact q _ _ ((s12.trans s3).trans sn) (by rw [Ha hp e]; exact ⟨t,v1,v2,rfl,A3,(t1.same s3).same sn,t2.same sn⟩)
noncomputable abbrev Pf:Stmt:=top 39
theorem scCount:FnScope ["tree"] ["tree"] (A7 Pf):=⟨rfl,rfl,rfl,by decide +kernel,rfl,by decide +kernel,by decide +kernel⟩
theorem Mj {f:Addr} {fd:FuncData} (F:Fun K "count_parts" "count_parts" Pf f fd) (mCO:mg "count_parts" = some (.ref f)) (kCO:Θk K f) (bCO:Binds K fd ["tree"] []):∀n:Nat,FnOk P w K mg base CX0 (n + 1) f fd ["tree"] (Rr n)
 | 0=>by
  refine F.ok (k:=0) scCount (fun vs H Q E h=>?_) (fun cdv A outer s H vs Q E hr h=>?_)
  ·obtain ⟨v,t,rfl,_⟩:=h
   rfl
  ·obtain ⟨v,t,rfl,_,hn,_⟩:=h
   exact absurd hn (Nat.not_lt_zero _)
 | n + 1=>by
  have GCO:=Mj F mCO kCO bCO n
  refine F.ok (k:=n + 1) scCount (fun vs H Q E h=>?_) (fun cdv A outer s H vs Q E hr h=>?_)
  ·obtain ⟨v,t,rfl,_⟩:=h
   rfl
  obtain ⟨v,t,rfl,ht,hn,q⟩:=h
  have nd:=scCount.nd
  refine ⟨_,(A2 (D1 (B1 op_eq (C4 (C2 (K:=K) rfl) (pv 0) A5 (fun _ _=>rfl)) B9 (C3 _)) (A4 (A9 A5)) C1)
   (A4 (A9 (B0 F9 (B0 F9 A5 (A8 GCO hr rfl mCO kCO bCO .nil B2 (A0 (C4 (C2 (K:=K) rfl) (pv 0) A5 (fun _ _=>rfl)) A1))) (A8 GCO hr rfl mCO kCO bCO .nil B2 (A0 (C4 (C2 (K:=K) rfl) (pv 0) A5 (fun _ _=>rfl)) A1)))))),?_⟩
  cases t with
  | whole p=>
   obtain ⟨a,rfl,ha⟩:=ht
   refine ⟨_,rfl,a,_,_,_,rfl,rfl,SqT.of ha,A6 (j:=0) rfl,rfl,_,rfl,N9 ?_⟩
   exact q
  | cut p s1 g l r=>
   obtain ⟨a,x,y,rfl,ha,hl,hr'⟩:=ht
   have hd:max l.dep r.dep + 1 < n + 1:=hn
   refine ⟨_,rfl,a,_,_,_,rfl,rfl,SqT.of ha,A6 (j:=0) rfl,rfl,_,rfl,E8 (fun hc=>?_) (fun _=>?_)⟩
   ·exact absurd (Zj_ hc) (by intro z; injection z with z; revert z; decide)
   exact ⟨_,rfl,a,_,_,_,rfl,rfl,SqT.of ha,A6 (j:=4) rfl,x,l,rfl,hl,by omega,1,l.cnt,rfl,rfl,_,rfl,a,_,_,_,rfl,rfl,SqT.of ha,A6 (j:=5) rfl,y,r,rfl,hr',by omega,1 + l.cnt,r.cnt,rfl,rfl,q⟩
noncomputable abbrev Gf:Stmt:=top 40
theorem scCutTree:FnScope ["many","rules","tree"] ["many","rules"] (A7 Gf):=⟨rfl,rfl,rfl,by decide +kernel,rfl,by decide +kernel,by decide +kernel⟩
theorem Oq {f fTR fAL fCO CTM:Addr} {fd fdTR fdAL fdCO:FuncData} {tkMT:PySem.Tok} (F:Fun K "cut_tree" "cut_tree" Gf f fd) (GTR:FnOk P w K mg base CX0 134 fTR fdTR ["many","rules","part"] (Aaa K 128)) (mTR:mg "tree_of" = some (.ref fTR)) (kTR:Θk K fTR) (bTR:Binds K fdTR ["many","rules","part"] []) (GAL:FnOk P w K mg base CX0 1 fAL fdAL ["many"] Bx) (mAL:mg "all_of" = some (.ref fAL)) (kAL:Θk K fAL) (bAL:Binds K fdAL ["many"] []) (GCO:FnOk P w K mg base CX0 129 fCO fdCO ["tree"] (Rr 128)) (mCO:mg "count_parts" = some (.ref fCO)) (kCO:Θk K fCO) (bCO:Binds K fdCO ["tree"] []) (OTM:Exc K "TooMany" CTM) (mMT:mg "MOST_TREE_PARTS" = some (.int 60 tkMT)):FnOk P w K mg base (CX1 P w) 135 f fd ["many","rules"] (Ir K CTM):=by
 refine F.ok1 scCutTree (fun vs H Q E h=>?_) (fun cdv A outer s H vs Q E hr h=>?_)
 ·obtain ⟨m,rl,rs,rfl,_⟩:=h
  rfl
 ·obtain ⟨m,rl,rs,rfl,m7,hrl,hRs,lr,qe,qq⟩:=h
  have nd:=scCutTree.nd
  have hr1:Room 1 _:=hr.mono (by decide)
  have hrT:Room 134 _:=hr.mono (by decide)
  have hrC:Room 129 _:=hr.mono (by decide)
  have pw:0 < 2 ^ m:=Nat.two_pow_pos m
  have p7:=W4 m7
  refine ⟨_,(A2 (C0 (i:=2) nd rfl (Or.inl rfl) (A8 GTR hrT rfl mTR kTR bTR .nil B2 (A0 (pv 0) (A0 (pv 1) (A0 (A8 GAL hr1 rfl mAL kAL bAL .nil B2 (A0 (pv 0) A1)) A1)))))
   (A2 (D1 (B1 T5 (A8 GCO hrC rfl mCO kCO bCO .nil B2 (A0 (pv 2) A1)) (L8 (v:=vN 60) (by rfl) mMT ⟨_,rfl⟩) (C3 _)) (A4 (U8 (EX:=E) OTM (by rfl) rfl (A0 (Pa (L8 (v:=vN 60) (by rfl) mMT ⟨_,rfl⟩)) A1) (fun _ _ _ _ _ _ _ I hx hE=>R3 I hx hE))) C1)
   (A4 (A9 (pv 2))))),?_⟩
  refine ⟨_,rfl,_,rfl,_,rfl,m,rfl,by omega,m,2 ^ m - 1,rl,rs,rfl,m7,by omega,by omega,hrl,hRs,lr,fun v H1 s1 hv=>?_⟩
  have dp:=Hb (m:=m) (rs:=rs.map Rl.d) _ (2 ^ m - 1) (Zd_ _) (by omega)
  refine ⟨_,rfl,v,_,rfl,hv,by omega,(trP m (rs.map Rl.d) (2 ^ m - 1)).cnt,60,rfl,rfl,_,rfl,E8 (fun hb=>?_) (fun hb=>?_)⟩
  ·exact ⟨_,rfl,by decide,fun x=>⟨(by show 1<=sizeLine; decide),qe (Zj_ hb) _ s1⟩⟩
  ·exact ⟨_,rfl,qq (Nat.le_of_not_lt fun z=>hb (Zr_ z)) _ _ s1 hv⟩
noncomputable abbrev Kj:Stmt:=top 41
theorem scLeaves:FnScope ["tree"] ["tree"] (A7 Kj):=⟨rfl,rfl,rfl,by decide +kernel,rfl,by decide +kernel,by decide +kernel⟩
theorem Ii {f:Addr} {fd:FuncData} (F:Fun K "leaves" "leaves" Kj f fd) (mLV:mg "leaves" = some (.ref f)) (kLV:Θk K f) (bLV:Binds K fd ["tree"] []):∀n:Nat,FnOk P w K mg base CX0 (n + 1) f fd ["tree"] (Nd n)
 | 0=>by
  refine F.ok (k:=0) scLeaves (fun vs H Q E h=>?_) (fun cdv A outer s H vs Q E hr h=>?_)
  ·obtain ⟨v,t,rfl,_⟩:=h
   rfl
  ·obtain ⟨v,t,rfl,_,hn,_⟩:=h
   exact absurd hn (Nat.not_lt_zero _)
 | n + 1=>by
  have GLV:=Ii F mLV kLV bLV n
  refine F.ok (k:=n + 1) scLeaves (fun vs H Q E h=>?_) (fun cdv A outer s H vs Q E hr h=>?_)
  ·obtain ⟨v,t,rfl,_⟩:=h
   rfl
  obtain ⟨v,t,rfl,ht,hn,hc60,q⟩:=h
  have nd:=scLeaves.nd
  refine ⟨_,(A2 (D1 (B1 op_eq (C4 (C2 (K:=K) rfl) (pv 0) A5 (fun _ _=>rfl)) B9 (C3 _)) (A4 (A9 (E5 (A0 (C4 (C2 (K:=K) rfl) (pv 0) A5 (fun _ _=>rfl)) A1)))) C1)
   (A4 (A9 (B0 K6 (A8 GLV hr rfl mLV kLV bLV .nil B2 (A0 (C4 (C2 (K:=K) rfl) (pv 0) A5 (fun _ _=>rfl)) A1)) (A8 GLV hr rfl mLV kLV bLV .nil B2 (A0 (C4 (C2 (K:=K) rfl) (pv 0) A5 (fun _ _=>rfl)) A1)))))),?_⟩
  cases t with
  | whole p=>
   obtain ⟨a,rfl,ha⟩:=ht
   refine ⟨_,rfl,a,_,_,_,rfl,rfl,SqT.of ha,A6 (j:=0) rfl,rfl,_,rfl,N9 ?_⟩
   exact ⟨_,rfl,a,_,_,_,rfl,rfl,SqT.of ha,A6 (j:=1) rfl,(by show 1<=sizeLine; decide),fun l hl=>q l _ (Same.new hl) hl A3⟩
  | cut p s1 g l r=>
   obtain ⟨a,x,y,rfl,ha,hl,hr'⟩:=ht
   have hd:max l.dep r.dep + 1 < n + 1:=hn
   have h60:1 + l.cnt + r.cnt<=60:=hc60
   have ll:=l.lvs_le
   have lr:=r.lvs_le
   refine ⟨_,rfl,a,_,_,_,rfl,rfl,SqT.of ha,A6 (j:=0) rfl,rfl,_,rfl,E8 (fun hc=>?_) (fun _=>?_)⟩
   ·exact absurd (Zj_ hc) (by intro z; injection z with z; revert z; decide)
   refine ⟨_,rfl,a,_,_,_,rfl,rfl,SqT.of ha,A6 (j:=4) rfl,x,l,rfl,hl,by omega,by omega,fun l1 H1 s1 hl10 hl1=>?_⟩
   have ha1:=s1 _ _ ha
   refine ⟨_,rfl,a,_,_,_,rfl,rfl,SqT.of ha1,A6 (j:=5) rfl,y,r,rfl,hr'.same s1,by omega,by omega,fun l2 H2 s2 hl20 hl2=>?_⟩
   refine ⟨l1,l2,l.lvs.map vN,r.lvs.map vN,rfl,rfl,s2 _ _ hl1,hl2,Nat.le_of_lt (D0 (by rw [Θl,Θl]; omega)),fun l3 hl3=>?_⟩
   have s12:=s1.trans s2
   exact q l3 _ (s12.trans (Same.new hl3)) (s12.none hl3) (by rw [A3]; show _=some (HO.lst ((l.lvs++r.lvs).map vN)); rw [Zw_])
end
end Own
namespace Own
open PySem L2
section
variable {P:Program} {w:World} {K:Θf} {mg:Str->Option Value} {base:Heap}
seal PySem.wpAny
noncomputable abbrev Zh:Stmt:=top 32
theorem scTorn:FnScope ["blocks","one","other","block"] ["blocks","one","other"] (A7 Zh):=⟨rfl,rfl,rfl,by decide +kernel,rfl,by decide +kernel,by decide +kernel⟩
theorem Abw {f fIW:Addr} {fd fdIW:FuncData} (F:Fun K "first_torn" "first_torn" Zh f fd) (GIW:FnOk P w K mg base CX0 1 fIW fdIW ["one","other"] S4) (mIW:mg "is_within" = some (.ref fIW)) (kIW:Θk K fIW) (bIW:Binds K fdIW ["one","other"] []):FnOk P w K mg base CX0 2 f fd ["blocks","one","other"] (Zz K):=by
 refine F.ok scTorn (fun vs H Q E h=>?_) (fun cdv A outer s H vs Q E hr h=>?_)
 ·obtain ⟨l,x,y,bs,rfl,_⟩:=h
  rfl
 ·obtain ⟨l,x,y,bs,rfl,hl,qn,qs⟩:=h
  have nd:=scTorn.nd
  have hr1:Room 1 _:=hr.mono (by decide)
  refine ⟨_,(A2 (K7 PassesOwn.never rfl (E3 (K:=K) rfl (pv 0)) (C5 (i:=3) nd rfl (Or.inl rfl)) (A4 (D1 (PW.pt (Pd (R9 (K8 (A8 GIW hr1 rfl mIW kIW bIW .nil B2 (A0 (pv 3) (A0 (pv 1) A1))))) (Ka (R9 (K8 (A8 GIW hr1 rfl mIW kIW bIW .nil B2 (A0 (pv 3) (A0 (pv 2) A1)))))))) (A4 (A9 (pv 3))) C1)))
   (A4 (A9 F5))),?_⟩
  refine ⟨_,rfl,l,rfl,⟨_,hl⟩,M6 (xs:=bs.map vN) (fun i σ H'=>(∃v3,σ=[some (.ref l),some (vN x),some (vN y),v3])/\H' = H/\(bs.take i).find? (Z7 x y)=none) ⟨⟨none,rfl⟩,rfl,rfl⟩ (fun i σ H' _ h=>by rw [h.2.1]; exact hl) ?_ ?_⟩
  ·rintro i v σ H' hv ⟨⟨v3,rfl⟩,rfl,hn⟩
   rw [Θg] at hv
   cases eb:bs[i]? with
   | none=>rw [eb] at hv; cases hv
   | some b=>
    rw [eb] at hv
    obtain rfl:=(Θo hv).symm
    refine ⟨_,rfl,_,rfl,b,x,rfl,_,rfl,?_⟩
    cases c1:decide (b&&&x=b) with
    | true=>
     refine E7 (E7 ⟨⟨_,rfl⟩,rfl,Y3 hn eb ?_⟩)
     unfold Z7; rw [c1]; exact Bool.false_ne_true
    | false=>
     refine N9 ?_
     refine ⟨_,rfl,_,rfl,b,y,rfl,_,rfl,?_⟩
     cases c2:decide (b&&&y=b) with
     | true=>
      refine E7 ⟨⟨_,rfl⟩,rfl,Y3 hn eb ?_⟩
      unfold Z7; rw [c1,c2]; exact Bool.false_ne_true
     | false=>
      refine N9 ⟨_,rfl,qs b (Fo hn eb ?_)⟩
      unfold Z7; rw [c1,c2]; rfl
  ·rintro σ H' ⟨⟨v3,rfl⟩,rfl,hn⟩
   rw [Θl,List.take_length] at hn
   exact qn hn
noncomputable abbrev Ph:Stmt:=top 33
theorem scCutIn:FnScope ["many","rules","one","other","told","block"] ["many","rules","one","other"] (A7 Ph):=⟨rfl,rfl,rfl,by decide +kernel,rfl,by decide +kernel,by decide +kernel⟩
theorem Xq {f fIW fAL fUN fFT:Addr} {fd fdIW fdAL fdUN fdFT:FuncData} (F:Fun K "cut_in_two" "cut_in_two" Ph f fd) (GIW:FnOk P w K mg base CX0 1 fIW fdIW ["one","other"] S4) (mIW:mg "is_within" = some (.ref fIW)) (kIW:Θk K fIW) (bIW:Binds K fdIW ["one","other"] []) (GAL:FnOk P w K mg base CX0 1 fAL fdAL ["many"] Bx) (mAL:mg "all_of" = some (.ref fAL)) (kAL:Θk K fAL) (bAL:Binds K fdAL ["many"] []) (GUN:FnOk P w K mg base CX0 3 fUN fdUN ["many","rules","some"] (S3 K)) (mUN:mg "unfolded" = some (.ref fUN)) (kUN:Θk K fUN) (bUN:Binds K fdUN ["many","rules","some"] []) (GFT:FnOk P w K mg base CX0 2 fFT fdFT ["blocks","one","other"] (Zz K)) (mFT:mg "first_torn" = some (.ref fFT)) (kFT:Θk K fFT) (bFT:Binds K fdFT ["blocks","one","other"] []):FnOk P w K mg base CX0 4 f fd ["many","rules","one","other"] (Ac0 K vN):=by
 refine F.ok scCutIn (fun vs H Q E h=>?_) (fun cdv A outer s H vs Q E hr h=>?_)
 ·obtain ⟨m,x,y,rl,rs,rfl,_⟩:=h
  rfl
 ·obtain ⟨m,x,y,rl,rs,rfl,m7,hx,hy,hxy,hrl,hRs,lr,qq⟩:=h
  have nd:=scCutIn.nd
  have hr1:Room 1 _:=hr.mono (by decide)
  have hr2:Room 2 _:=hr.mono (by decide)
  have hr3:Room 3 _:=hr.mono (by decide)
  have hxa:x&&&y < 2 ^ m:=Nat.lt_of_le_of_lt Nat.and_le_left hx
  refine ⟨_,(A2 (D1 (R9 (K8 (A8 GIW hr1 rfl mIW kIW bIW .nil B2 (A0 (A8 GAL hr1 rfl mAL kAL bAL .nil B2 (A0 (pv 0) A1)) (A0 (B0 X4 (pv 2) (pv 3)) A1))))) (A4 M8) C1)
   (A2 (C0 (i:=4) nd rfl (Or.inl rfl) (A8 GUN hr3 rfl mUN kUN bUN .nil B2 (A0 (pv 0) (A0 (pv 1) (A0 (B0 O4 (pv 2) (pv 3)) A1)))))
   (A2 (C0 (i:=5) nd rfl (Or.inl rfl) (A8 GFT hr2 rfl mFT kFT bFT .nil B2 (A0 (C4 (C2 (K:=K) rfl) (pv 4) A5 (fun _ _=>rfl)) (A0 (pv 2) (A0 (pv 3) A1)))))
   (A2 (D1 (B1 V8 (pv 5) F5 (C3 _)) (A4 (A9 (F2 (A0 B9 (A0 (C4 (C2 (K:=K) rfl) (pv 4) A5 (fun _ _=>rfl)) A1))))) C1)
   (A4 (A9 (F2 (A0 B9 (A0 (pv 5) A1))))))))),?_⟩
  refine ⟨_,rfl,m,rfl,by omega,_,rfl,_,rfl,x,y,rfl,rfl,2 ^ m - 1,x|||y,rfl,_,rfl,?_⟩
  rw [hxy,Nat.and_self,Zr_ rfl]
  refine E7 ?_
  refine ⟨_,rfl,_,rfl,_,rfl,_,rfl,x,y,rfl,rfl,m,x&&&y,rl,rs,rfl,m7,hxa,hrl,hRs,lr,fun t p qa s sw H1 R s1 ht ht1 hp hp1 hq hq1 st1 e1 l1 n1=>?_⟩
  refine ⟨_,rfl,t,_,_,_,rfl,rfl,SqT.of ht1,A6 (j:=1) rfl,_,rfl,_,rfl,p,x,y,s.bs,rfl,SqL.of hp1,fun hn=>?_,fun b hb=>?_⟩
  ·refine ⟨_,rfl,rfl,_,rfl,?_⟩
   refine N9 ?_
   refine ⟨_,rfl,t,_,_,_,rfl,rfl,SqT.of ht1,A6 (j:=2) rfl,(by show 2<=sizeLine; decide),fun t2 ht2=>?_⟩
   have s2:=Same.new (o:=.tup [V.str "safe",V.ref qa]) ht2
   refine qq s t2 _ R (s1.trans s2) (.inr ⟨hn,qa,sw,s2 _ _ hq1,st1.same s2,e1,l1,A3⟩) fun q' z=>?_
   rw [A3] at z
   injection z with z
   injection z with z
   injection z with _ z
   injection z with z _
   injection z with z
   rw [<-z]; exact hq
  ·refine ⟨_,rfl,rfl,_,rfl,?_⟩
   refine E7 ?_
   refine ⟨_,rfl,(by show 2<=sizeLine; decide),fun t2 ht2=>?_⟩
   refine qq s t2 _ R (s1.trans (Same.new ht2)) (.inl ⟨b,hb,A3⟩) fun q' z=>?_
   rw [A3] at z
   injection z with z
   injection z with z
   injection z with z
   injection z with z
   exact absurd z (by decide)
noncomputable abbrev Ao:Stmt:=top 47
theorem scFirstGain:FnScope ["many","rules","parts","some","number","part","gained"] ["many","rules","parts","some"] (A7 Ao):=⟨rfl,rfl,rfl,by decide +kernel,rfl,by decide +kernel,by decide +kernel⟩
theorem Js {f fSE:Addr} {fd fdSE:FuncData} (F:Fun K "first_gain" "first_gain" Ao f fd) (GSE:FnOk P w K mg base CX0 4 fSE fdSE ["many","rules","some"] (Dj K)) (mSE:mg "settled" = some (.ref fSE)) (kSE:Θk K fSE) (bSE:Binds K fdSE ["many","rules","some"] []) (zenumerate:mg "enumerate" = none):FnOk P w K mg base CX0 5 f fd ["many","rules","parts","some"] (Ed K):=by
 refine F.ok scFirstGain (fun vs H Q E h=>?_) (fun cdv A outer s H vs Q E hr h=>?_)
 ·obtain ⟨m,z,rl,pl,rs,ps,rfl,_⟩:=h
  rfl
 ·obtain ⟨m,z,rl,pl,rs,ps,rfl,m7,hz,hrl,hRs,lr,hpl,hps,qn,qs⟩:=h
  have nd:=scFirstGain.nd
  have hr4:Room 4 _:=hr.mono (by decide)
  refine ⟨_,(A2 (K7 PassesOwn.never rfl (Bn (K:=K) rfl rfl zenumerate (A0 (pv 2) A1)) (T6 rfl (E1 (C5 (i:=4) nd rfl (Or.inl rfl)) (E1 (C5 (i:=5) nd rfl (Or.inl rfl)) N4))) (A2 (C0 (i:=6) nd rfl (Or.inl rfl) (B0 P7 (B0 O4 (A8 GSE hr4 rfl mSE kSE bSE .nil B2 (A0 (pv 0) (A0 (pv 1) (A0 (B0 O4 (pv 3) (pv 5)) A1)))) (pv 5)) (Ga Av (pv 3))))
   (A4 (D1 (B1 X3 (pv 6) A5 (C3 _)) (A4 (A9 (F2 (A0 (pv 4) (A0 (pv 6) A1))))) C1))))
   (A4 (A9 F5))),?_⟩
  refine ⟨_,rfl,pl,_,rfl,hpl,W6 (xs:=ps.map vN) (fun i σ H'=>(∃v4 v5 v6,σ=[some (vN m),some (.ref rl),some (.ref pl),some (vN z),v4,v5,v6])/\Same H H'/\((List.range ps.length).take i).find? (gB m (rs.map Rl.d) z ps)=none) ⟨⟨none,none,none,rfl⟩,Same.refl _,rfl⟩ (fun i σ H' _ h=>h.2.1.seq hpl) ?_ ?_⟩
  ·rintro i v σ H0 t0 hv ⟨⟨v4,v5,v6,rfl⟩,s0,u0⟩ ht0
   rw [Θg] at hv
   cases ep:ps[i]? with
   | none=>rw [ep] at hv; cases hv
   | some p=>
    rw [ep] at hv
    obtain rfl:=(Θo hv).symm
    have s1:=s0.trans (Same.new (o:=.tup [.int (i:Int),vN p]) ht0)
    refine ⟨t0,_,rfl,SqT.of A3,rfl,_,_,rfl,_,_,rfl,rfl,?_⟩
    generalize upd H0 t0 (.tup [.int (i:Int),vN p])=H1 at s1
    have hzp:z&&&p < 2 ^ m:=Nat.lt_of_le_of_lt Nat.and_le_left hz
    refine ⟨_,rfl,_,rfl,_,rfl,_,rfl,z,p,rfl,rfl,m,z&&&p,rl,rs,rfl,m7,hzp,s1.seq hrl,hRs.same s1,lr,fun u H2 R s2=>?_⟩
    have e:=(R.blocks hzp).fixF
    rw [<-e]
    refine ⟨_,rfl,fixF m (rs.map Rl.d) (z&&&p),p,rfl,rfl,_,rfl,(z:Int),rfl,fixF m (rs.map Rl.d) (z&&&p)&&&p,z,rfl,rfl,?_⟩
    have s12:=s1.trans s2
    refine ⟨_,rfl,R6 m (rs.map Rl.d) z p,0,rfl,rfl,_,rfl,E8 (fun hb=>?_) (fun hb=>?_)⟩
    ·have hne:R6 m (rs.map Rl.d) z p≠0:=fun w=>by rw [Zr_ w] at hb; cases hb
     refine ⟨_,rfl,_,rfl,(by show 2<=sizeLine; decide),fun t ht=>?_⟩
     exact qs _ t _ (s12.trans (Same.new ht)) (Ux u0 ep hne) (s12.none ht) A3
    ·have he:R6 m (rs.map Rl.d) z p=0:=Classical.byContradiction fun w=>hb (by rw [decide_eq_false w]; rfl)
     exact ⟨⟨_,_,_,rfl⟩,s12,Qa u0 ep he⟩
  ·rintro σ H' ⟨⟨v4,v5,v6,rfl⟩,s',u'⟩
   rw [Θl] at u'
   exact qn H' s' (Qb u' (Zd_ _))
noncomputable def Rx (K:Θf) (CT:Addr):Sp:=fun vs H Q E=>∃(m x y:Nat) (rl pl r:Addr) (rs:List Rl) (ps:List Nat),vs=[vN m,.ref rl,.ref pl,.ref r]/\m<=7/\x < 2 ^ m/\SqL K H rl (rs.map fun r=>V.ref r.r)/\RulesAt H m rs/\rs.length<=200/\SqL K H pl (ps.map vN)/\InM m ps/\E4 H r true x y/\
 ((ps.length=0\/10 < ps.length)->E (.ref CT) none H)/\(1<=ps.length->ps.length<=10->∀(t:Addr) (H':Hp),Same H H'->Acr H' y (X7 m (rs.map Rl.d) ps 128 x) t->(∀q,H' t=some (.tup [.str "yes",.ref q])->H q=none)->Q (.ref t) H')
noncomputable abbrev Kn:Stmt:=top 48
theorem scPartBy:FnScope ["many","rules","parts","rule","reached","gains","gain"] ["many","rules","parts","rule"] (A7 Kn):=⟨rfl,rfl,rfl,by decide +kernel,rfl,by decide +kernel,by decide +kernel⟩
theorem Ue {f fFG fIW:Addr} {fd fdFG fdIW:FuncData} {tkMP:PySem.Tok} {CT:Addr} (F:Fun K "part_by_part" "part_by_part" Kn f fd) (GFG:FnOk P w K mg base CX0 5 fFG fdFG ["many","rules","parts","some"] (Ed K)) (mFG:mg "first_gain" = some (.ref fFG)) (kFG:Θk K fFG) (bFG:Binds K fdFG ["many","rules","parts","some"] []) (GIW:FnOk P w K mg base CX0 1 fIW fdIW ["one","other"] S4) (mIW:mg "is_within" = some (.ref fIW)) (kIW:Θk K fIW) (bIW:Binds K fdIW ["one","other"] []) (OTM:Exc K "TooMany" CT) (mMP:mg "MOST_PARTS" = some (.int 10 tkMP)) (zlen:mg "len" = none):FnOk P w K mg base (CX1 P w) 6 f fd ["many","rules","parts","rule"] (Rx K CT):=by
 refine F.ok1 scPartBy (fun vs H Q E h=>?_) (fun cdv A outer s H vs Q E hr h=>?_)
 ·obtain ⟨m,x,y,rl,pl,r,rs,ps,rfl,_⟩:=h
  rfl
 ·obtain ⟨m,x,y,rl,pl,r,rs,ps,rfl,m7,hx,hrl,hRs,lr,hpl,hps,hR,qe,qq0⟩:=h
  have nd:=scPartBy.nd
  have hr1:Room 1 _:=hr.mono (by decide)
  have hr5:Room 5 _:=hr.mono (by decide)
  have lpm:(ps.map vN).length=ps.length:=Θl ..
  refine ⟨_,(A2 (D1 (PW.pt (Bp (B1 O1 (D2 (D9 (K:=K) rfl) (by rfl) zlen PySem.boot_len (A0 (pv 2) A1)) A5 (C3 _)) (Db (B1 T5 (D2 (D9 (K:=K) rfl) (by rfl) zlen PySem.boot_len (A0 (pv 2) A1)) (L8 (v:=vN 10) (by rfl) mMP ⟨_,rfl⟩) (C3 _))))) (A4 (U8 (EX:=E) OTM (by rfl) rfl (A0 (Aei (L8 (v:=vN 10) (by rfl) mMP ⟨_,rfl⟩)) A1) (fun _ _ _ _ _ _ _ I hx hE=>R3 I hx hE))) C1) (PSs.nox (A2 (C0 (i:=4) nd rfl (Or.inl rfl) (C4 (C2 (K:=K) rfl) (pv 3) A5 (fun _ _=>rfl))) (A2 (C0 (i:=5) nd rfl (Or.inl rfl) (E5 A1)) (Et (fun σ H'=>∃n,Afi H m x rl pl r rs ps n σ H') (C0 (i:=6) nd rfl (Or.inl rfl) (A8 GFG hr5 rfl mFG kFG bFG .nil B2 (A0 (pv 0) (A0 (pv 1) (A0 (pv 2) (A0 (pv 4) A1)))))) (A2 (U9 PassesOwn.never (B1 Jv (pv 6) F5 (C3 _)) (A2 (O5 (I9 PySem.F.plainAttrs_list PySem.F.slot_list_append PySem.F.type_list_append N2 (pv 5) (A0 (pv 6) A1)))
   (A2 (C0 (i:=4) nd rfl (Or.inl rfl) (B0 X4 (pv 4) (C4 (C2 (K:=K) rfl) (pv 6) A5 (fun _ _=>rfl))))
   (A4 (C0 (i:=6) nd rfl (Or.inl rfl) (A8 GFG hr5 rfl mFG kFG bFG .nil B2 (A0 (pv 0) (A0 (pv 1) (A0 (pv 2) (A0 (pv 4) A1))))))))))
   (A2 (D1 (K8 (A8 GIW hr1 rfl mIW kIW bIW .nil B2 (A0 (C4 (C2 (K:=K) rfl) (pv 3) A5 (fun _ _=>rfl)) (A0 (pv 4) A1)))) (A4 (A9 (F2 (A0 B9 (A0 (pv 5) A1))))) C1)
   (A4 (A9 (F2 (A0 B9 (A0 (pv 4) A1)))))))))))),?_⟩
  by_cases bad:ps.length=0\/10 < ps.length
  ·refine ⟨_,rfl,pl,_,rfl,.inl hpl,(ps.map vN).length,0,rfl,rfl,_,rfl,?_⟩
   rw [lpm]
   refine E8 (fun _=>N9 ?_) (fun c0=>?_)
   ·exact ⟨_,rfl,by decide,fun x=>⟨(by show 1<=sizeLine; decide),qe bad⟩⟩
   ·refine ⟨_,rfl,pl,_,rfl,.inl hpl,(ps.map vN).length,10,rfl,rfl,_,rfl,?_⟩
    rw [lpm,Zr_ (show 10 < ps.length from bad.resolve_left fun z=>c0 (Zr_ z))]
    refine N9 ?_
    exact ⟨_,rfl,by decide,fun x=>⟨(by show 1<=sizeLine; decide),qe bad⟩⟩
  have p1:1<=ps.length:=by omega
  have p10:ps.length<=10:=by omega
  have qq:=qq0 p1 p10
  refine ⟨_,rfl,pl,_,rfl,.inl hpl,(ps.map vN).length,0,rfl,rfl,_,rfl,?_⟩
  rw [lpm,decide_eq_false (show ¬ps.length=0 by omega)]
  refine E7 ?_
  refine ⟨_,rfl,pl,_,rfl,.inl hpl,(ps.map vN).length,10,rfl,rfl,_,rfl,?_⟩
  rw [lpm,decide_eq_false (show ¬10 < ps.length by omega)]
  refine E7 ?_
  refine ⟨_,rfl,r,_,_,_,rfl,rfl,SqT.of hR,A6 (j:=1) rfl,?_⟩
  refine ⟨Zp_ _,fun gl hgl=>?_⟩
  have s1:=Same.new (o:=.lst []) hgl
  have hgl1:(upd H gl (.lst [])) gl=some (.lst []):=A3
  generalize upd H gl (.lst [])=H1 at s1 hgl1
  refine ⟨⟨_,rfl,_,rfl,_,rfl,_,rfl,m,x,rl,pl,rs,ps,rfl,m7,hx,s1.seq hrl,hRs.same s1,lr,s1.seq hpl,hps,fun H2 s2 hn=>?_,fun u t H2 s2 hu ht0 ht=>?_⟩,?_⟩
  ·exact ⟨_,x,gl,[],.non,rfl,GAt.begin m7 hx,s1.trans s2,hgl,s2 _ _ hgl1,(fun w h=>absurd h Zi_),.inl ⟨hn,rfl⟩⟩
  ·exact ⟨_,x,gl,[],.ref t,rfl,GAt.begin m7 hx,s1.trans s2,hgl,s2 _ _ hgl1,(fun w h=>absurd h Zi_),.inr ⟨u,t,hu,rfl,ht⟩⟩
  clear s1 hgl1 hgl
  rintro σ H3 ⟨n0,hinv⟩
  refine ⟨Afi H m x rl pl r rs ps,⟨n0,hinv⟩,?_⟩
  clear hinv
  rintro n _ H4 ⟨z,gl,sw,v,rfl,G,s4,hgl,hgl4,st4,hv⟩
  refine ⟨_,rfl,rfl,_,rfl,?_⟩
  rcases hv with ⟨hn,rfl⟩ | ⟨u,t,hu,rfl,ht⟩
  ·refine E7 ?_
   obtain ⟨d1,d2⟩:=G.done hn
   have hR4:=s4 _ _ hR
   refine ⟨_,rfl,r,_,_,_,rfl,rfl,SqT.of hR4,A6 (j:=2) rfl,_,rfl,y,z,rfl,_,rfl,E8 (fun hb=>?_) (fun hb=>?_)⟩
   ·refine ⟨_,rfl,(by show 2<=sizeLine; decide),fun t ht=>?_⟩
    have s5:=Same.new (o:=.tup [V.str "yes",V.ref gl]) ht
    refine qq t _ (s4.trans s5) (.inl ⟨by rw [<-d2]; exact Zj_ hb,gl,sw,s5 _ _ hgl4,st4.same s5,d1,?_,A3⟩) fun q' w=>?_
    ·have:=G.len
     rw [Θl] at this
     omega
    ·rw [A3] at w
     injection w with w
     injection w with w
     injection w with _ w
     injection w with w _
     injection w with w
     rw [<-w]; exact hgl
   ·refine ⟨_,rfl,(by show 2<=sizeLine; decide),fun t ht=>?_⟩
    refine qq t _ (s4.trans (Same.new ht)) (.inr ⟨by rw [<-d2]; exact fun w=>hb (Zr_ w),by rw [A3,<-d2]⟩) fun q' w=>?_
    rw [A3] at w
    injection w with w
    injection w with w
    injection w with w
    injection w with w
    exact absurd w (by decide)
  ·refine N9 ?_
   refine ⟨_,fun _ _ h=>h,?_⟩
   obtain ⟨n',rfl,G'⟩:=G.next hu
   have ls:=G.len
   rw [Θl] at ls
   refine ⟨_,rfl,.inl ⟨rfl,_,SqL.of hgl4⟩,_,rfl,gl,_,_,rfl,rfl,hgl4,(by rw [Θl]; exact D0 (by omega)),?_⟩
   have nt:t≠gl:=Eb ht hgl4 (by intro z; cases z)
   have s5:Same H (upd H4 gl (.lst ((sw.map fun w=>V.ref w.1)++[V.ref t]))):=s4.own hgl
   have ht5:(upd H4 gl (.lst ((sw.map fun w=>V.ref w.1)++[V.ref t]))) t=some (.tup [vN u.1,vN u.2]):=by rw [C6 nt]; exact ht
   have hg5:(upd H4 gl (.lst ((sw.map fun w=>V.ref w.1)++[V.ref t]))) gl=some (.lst ((sw++[(t,u)]).map fun w=>V.ref w.1)):=by rw [A3,Zw_]; rfl
   have st5:StepsAt (upd H4 gl (.lst ((sw.map fun w=>V.ref w.1)++[V.ref t]))) (sw++[(t,u)]):=(st4.put hgl4).snoc (w:=(t,u)) ht5
   generalize upd H4 gl (.lst ((sw.map fun w=>V.ref w.1)++[V.ref t]))=H5 at s5 ht5 hg5 st5
   have G2:GAt m (rs.map Rl.d) ps x ((sw++[(t,u)]).map (·.2)) (z|||u.2) n':=by rw [Zw_]; exact G'
   refine ⟨_,rfl,_,rfl,t,_,_,_,rfl,rfl,SqT.of ht5,A6 (j:=1) rfl,z,u.2,rfl,rfl,?_⟩
   refine ⟨_,rfl,_,rfl,_,rfl,_,rfl,m,z|||u.2,rl,pl,rs,ps,rfl,m7,G2.lt,s5.seq hrl,hRs.same s5,lr,s5.seq hpl,hps,fun H6 s6 hn=>?_,fun u' t' H6 s6 hu' ht0' ht'=>?_⟩
   ·exact ⟨n',by omega,_,gl,_,.non,rfl,G2,s5.trans s6,hgl,s6 _ _ hg5,st5.same s6,.inl ⟨hn,rfl⟩⟩
   ·exact ⟨n',by omega,_,gl,_,.ref t',rfl,G2,s5.trans s6,hgl,s6 _ _ hg5,st5.same s6,.inr ⟨u',t',hu',rfl,ht'⟩⟩
end
end Own
namespace Own
open PySem L2
section
variable {P:Program} {w:World} {K:Θf} {mg:Str->Option Value} {base:Heap}
seal PySem.wpAny
noncomputable abbrev Kc:Stmt:=top 80
theorem scAnswer:FnScope ["names","rules","words","sets","many","whole_parts"] ["names","rules","words","sets"] (A7 Kc):=⟨rfl,rfl,rfl,by decide +kernel,rfl,by decide +kernel,by decide +kernel⟩
theorem Tv {f CTM fSH fPA fFO fST fKY fSC fTO fCI fPB fCT fLV fPX:Addr} {fd fdSH fdPA fdFO fdST fdKY fdSC fdTO fdCI fdPB fdCT fdLV fdPX:FuncData} (F:Fun K "answer" "answer" Kc f fd) (GSH:FnOk P w K mg base CX0 5 fSH fdSH ["names","rules"] (Cd K)) (mSH:mg "shown" = some (.ref fSH)) (kSH:Θk K fSH) (bSH:Binds K fdSH ["names","rules"] []) (GPA:FnOk P w K mg base CX0 5 fPA fdPA ["names","paper"] (Rw K)) (mPA:mg "show_paper" = some (.ref fPA)) (kPA:Θk K fPA) (bPA:Binds K fdPA ["names","paper"] []) (GFO:FnOk P w K mg base CX0 4 fFO fdFO ["many","rules","rule"] (Di K)) (mFO:mg "follows" = some (.ref fFO)) (kFO:Θk K fFO) (bFO:Binds K fdFO ["many","rules","rule"] []) (GST:FnOk P w K mg base CX0 5 fST fdST ["names","sets"] (Nf K)) (mST:mg "show_sets" = some (.ref fST)) (kST:Θk K fST) (bST:Binds K fdST ["names","sets"] []) (GKY:FnOk P w K mg base CX0 8 fKY fdKY ["many","rules"] (Pu K)) (mKY:mg "keys" = some (.ref fKY)) (kKY:Θk K fKY) (bKY:Binds K fdKY ["many","rules"] []) (GSC:FnOk P w K mg base CX0 8 fSC fdSC ["names","rules"] (Iw K)) (mSC:mg "show_cover" = some (.ref fSC)) (kSC:Θk K fSC) (bSC:Binds K fdSC ["names","rules"] []) (GTO:FnOk P w K mg base CX0 5 fTO fdTO ["names","told","good"] (Sd K)) (mTO:mg "show_told" = some (.ref fTO)) (kTO:Θk K fTO) (bTO:Binds K fdTO ["names","told","good"] []) (GCI:FnOk P w K mg base CX0 4 fCI fdCI ["many","rules","one","other"] (Ac0 K vN)) (mCI:mg "cut_in_two" = some (.ref fCI)) (kCI:Θk K fCI) (bCI:Binds K fdCI ["many","rules","one","other"] []) (GPB:FnOk P w K mg base (CX1 P w) 9 fPB fdPB ["many","rules"] (Ac4 K CTM)) (mPB:mg "parts_by_cover" = some (.ref fPB)) (kPB:Θk K fPB) (bPB:Binds K fdPB ["many","rules"] []) (GCT:FnOk P w K mg base (CX1 P w) 135 fCT fdCT ["many","rules"] (Ir K CTM)) (mCT:mg "cut_tree" = some (.ref fCT)) (kCT:Θk K fCT) (bCT:Binds K fdCT ["many","rules"] []) (GLV:FnOk P w K mg base CX0 129 fLV fdLV ["tree"] (Nd 128)) (mLV:mg "leaves" = some (.ref fLV)) (kLV:Θk K fLV) (bLV:Binds K fdLV ["tree"] []) (GPX:FnOk P w K mg base (CX1 P w) 6 fPX fdPX ["many","rules","parts","rule"] (Rx K CTM)) (mPX:mg "part_by_part" = some (.ref fPX)) (kPX:Θk K fPX) (bPX:Binds K fdPX ["many","rules","parts","rule"] []) (zlen:mg "len" = none):FnOk P w K mg base (CX1 P w) 136 f fd ["names","rules","words","sets"] (My K CTM):=by
 refine F.ok1 scAnswer (fun vs H Q E h=>?_) (fun cdv A outer s H vs Q E hr h=>?_)
 ·obtain ⟨np,rl,wp,sl,nms,rs,a,rfl,_⟩:=h
  rfl
 ·obtain ⟨np,rl,wp,sl,nms,rs,a,rfl,hn,NN,hrl,hR,l12,hw,hs,ha,qq,qe⟩:=h
  have nd:=scAnswer.nd
  have hr4:Room 4 _:=hr.mono (by decide)
  have hr5:Room 5 _:=hr.mono (by decide)
  have hr6:Room 6 _:=hr.mono (by decide)
  have hr8:Room 8 _:=hr.mono (by decide)
  have hr9:Room 9 _:=hr.mono (by decide)
  have hrL:Room 129 _:=hr.mono (by decide)
  have hrC:Room 135 _:=hr.mono (by decide)
  refine ⟨_,(A2 (C0 (i:=4) nd rfl (Or.inl rfl) (D2 (D9 (K:=K) rfl) (by rfl) zlen PySem.boot_len (A0 (pv 0) A1)))
   (A2 (D1 (B1 op_eq (C4 (C9 (K:=K) rfl) (pv 2) A5 (fun _ _=>rfl)) B9 (C3 _)) (A4 (A9 (A8 GSH hr5 rfl mSH kSH bSH .nil B2 (A0 (pv 0) (A0 (pv 1) A1))))) C1)
   (A2 (D1 (B1 op_eq (C4 (C9 (K:=K) rfl) (pv 2) A5 (fun _ _=>rfl)) B9 (C3 _)) (A4 (A9 (A8 GPA hr5 rfl mPA kPA bPA .nil B2 (A0 (pv 0) (A0 (A8 GFO hr4 rfl mFO kFO bFO .nil B2 (A0 (pv 4) (A0 (pv 1) (A0 (F2 (A0 (C4 (C9 (K:=K) rfl) (pv 2) A5 (fun _ _=>rfl)) (A0 (C4 (C9 (K:=K) rfl) (pv 3) A5 (fun _ _=>rfl)) (A0 (C4 (C9 (K:=K) rfl) (pv 3) A5 (fun _ _=>rfl)) A1)))) A1)))) A1))))) C1)
   (A2 (D1 (B1 op_eq (C4 (C9 (K:=K) rfl) (pv 2) A5 (fun _ _=>rfl)) B9 (C3 _)) (A4 (A9 (A8 GST hr5 rfl mST kST bST .nil B2 (A0 (pv 0) (A0 (A8 GKY hr8 rfl mKY kKY bKY .nil B2 (A0 (pv 4) (A0 (pv 1) A1))) A1))))) C1)
   (A2 (D1 (B1 op_eq (C4 (C9 (K:=K) rfl) (pv 2) A5 (fun _ _=>rfl)) B9 (C3 _)) (A4 (A9 (A8 GSC hr8 rfl mSC kSC bSC .nil B2 (A0 (pv 0) (A0 (pv 1) A1))))) C1)
   (A2 (D1 (B1 op_eq (C4 (C9 (K:=K) rfl) (pv 2) A5 (fun _ _=>rfl)) B9 (C3 _)) (A4 (A9 (A8 GTO hr5 rfl mTO kTO bTO .nil B2 (A0 (pv 0) (A0 (A8 GCI hr4 rfl mCI kCI bCI .nil B2 (A0 (pv 4) (A0 (pv 1) (A0 (C4 (C9 (K:=K) rfl) (pv 3) A5 (fun _ _=>rfl)) (A0 (C4 (C9 (K:=K) rfl) (pv 3) A5 (fun _ _=>rfl)) A1))))) (A0 B9 A1)))))) C1)
   (A2 (D1 (B1 op_eq (C4 (C9 (K:=K) rfl) (pv 2) A5 (fun _ _=>rfl)) B9 (C3 _)) (A4 (A9 (A8 GST hr5 rfl mST kST bST .nil B2 (A0 (pv 0) (A0 (A8 GPB hr9 rfl mPB kPB bPB .nil (Mp fun _ _ z=>z) (A0 (pv 4) (A0 (pv 1) A1))) A1))))) C1)
   (A2 (C0 (i:=5) nd rfl (Or.inl rfl) (A8 GLV hrL rfl mLV kLV bLV .nil B2 (A0 (A8 GCT hrC rfl mCT kCT bCT .nil (Mp fun _ _ z=>z) (A0 (pv 4) (A0 (pv 1) A1))) A1)))
   (A2 (D1 (B1 op_eq (C4 (C9 (K:=K) rfl) (pv 2) A5 (fun _ _=>rfl)) B9 (C3 _)) (A4 (A9 (A8 GST hr5 rfl mST kST bST .nil B2 (A0 (pv 0) (A0 (pv 5) A1))))) C1)
   (A4 (A9 (A8 GTO hr5 rfl mTO kTO bTO .nil B2 (A0 (pv 0) (A0 (A8 GPX hr6 rfl mPX kPX bPX .nil (Mp fun _ _ z=>z) (A0 (pv 4) (A0 (pv 1) (A0 (pv 5) (A0 (F2 (A0 B9 (A0 (C4 (C9 (K:=K) rfl) (pv 3) A5 (fun _ _=>rfl)) (A0 (C4 (C9 (K:=K) rfl) (pv 3) A5 (fun _ _=>rfl)) A1)))) A1))))) (A0 B9 A1))))))))))))))),?_⟩
  have l7:=NN.l7
  have p7:=W4 l7
  have pp:0 < 2 ^ nms.length:=Nat.two_pow_pos _
  have ln:(nms.map V.str).length=nms.length:=Θl ..
  refine ⟨_,rfl,np,_,rfl,.inl (SqL.of hn),?_⟩
  rw [ln]
  cases a with
  | «show»=>
   refine ⟨_,rfl,wp,_,_,_,rfl,rfl,hw,A6 (j:=0) (v:=V.str (Str.ofString "show")) rfl,rfl,_,rfl,N9 ?_⟩
   exact ⟨_,rfl,_,rfl,np,rl,nms,rs,rfl,hn,NN,hrl,hR,l12,fun H1 s1=>qq _ rfl H1 s1⟩
  | fol st x y=>
   obtain ⟨hx,hy⟩:=ha
   refine ⟨_,rfl,wp,_,_,_,rfl,rfl,hw,A6 (j:=0) (v:=V.str (Str.ofString "follows")) rfl,rfl,_,rfl,E7 ?_⟩
   refine ⟨_,rfl,wp,_,_,_,rfl,rfl,hw,A6 (j:=0) (v:=V.str (Str.ofString "follows")) rfl,rfl,_,rfl,N9 ?_⟩
   refine ⟨_,rfl,_,rfl,_,rfl,_,rfl,wp,_,_,_,rfl,rfl,hw,A6 (j:=2) (v:=V.str (D6 st)) rfl,_,rfl,sl,_,_,_,rfl,rfl,hs,A6 (j:=0) (v:=vN x) rfl,_,rfl,sl,_,_,_,rfl,rfl,hs,A6 (j:=1) (v:=vN y) rfl,(by show 3<=sizeLine; decide),fun r hr0=>?_⟩
   have s1:=Same.new (o:=.tup [V.str (D6 st),vN x,vN y]) hr0
   have h1:E4 (upd H r (.tup [V.str (D6 st),vN x,vN y])) r st x y:=A3
   generalize upd H r (.tup [V.str (D6 st),vN x,vN y])=H1 at s1 h1
   refine ⟨nms.length,rl,r,rs,st,x,y,rfl,l7,hx,s1.seq hrl,hR.same s1,by omega,h1,fun z t qa sw H2 R hf s2 ht ht1 hq hq1 st1 e1 l1=>?_,fun z b t H2 R hf s2 ht ht1=>?_⟩
   ·refine ⟨np,t,nms,none,z.st,rfl,SqL.of ((s1.trans s2) _ _ hn),NN,.inr ⟨rfl,qa,sw,ht1,hq1,st1,e1,l1⟩,(fun b e=>by cases e),(fun p hp=>by have:=Ri R (fun p hp=>absurd hp Zi_) p hp; rw [Θl] at this; omega),fun H3 s3=>qq _ ?_ H3 ((s1.trans s2).trans s3)⟩
    show some (Wd nms _ st x y)=_
    unfold Wd Aef
    rw [R.unfF,hf]
   ·refine ⟨np,t,nms,some b,z.st,rfl,SqL.of ((s1.trans s2) _ _ hn),NN,.inl ⟨b,rfl,ht1⟩,(fun c e=>by cases e; exact Yv hx R hf),(fun p hp=>by have:=Ri R (fun p hp=>absurd hp Zi_) p hp; rw [Θl] at this; omega),fun H3 s3=>qq _ ?_ H3 ((s1.trans s2).trans s3)⟩
    show some (Wd nms _ st x y)=_
    unfold Wd Aef
    rw [R.unfF,hf]
  | keys=>
   refine ⟨_,rfl,wp,_,_,_,rfl,rfl,hw,A6 (j:=0) (v:=V.str (Str.ofString "keys")) rfl,rfl,_,rfl,E7 ?_⟩
   refine ⟨_,rfl,wp,_,_,_,rfl,rfl,hw,A6 (j:=0) (v:=V.str (Str.ofString "keys")) rfl,rfl,_,rfl,E7 ?_⟩
   refine ⟨_,rfl,wp,_,_,_,rfl,rfl,hw,A6 (j:=0) (v:=V.str (Str.ofString "keys")) rfl,rfl,_,rfl,N9 ?_⟩
   exact ⟨_,rfl,_,rfl,_,rfl,nms.length,rl,rs,rfl,l7,hrl,hR,by omega,fun p H1 s1 hp0 hp=>⟨np,p,nms,_,rfl,SqL.of (s1 _ _ hn),NN,SqL.of hp,Wz l7,Aba l7,fun H2 s2=>qq _ rfl H2 (s1.trans s2)⟩⟩
  | cover=>
   refine ⟨_,rfl,wp,_,_,_,rfl,rfl,hw,A6 (j:=0) (v:=V.str (Str.ofString "cover")) rfl,rfl,_,rfl,E7 ?_⟩
   refine ⟨_,rfl,wp,_,_,_,rfl,rfl,hw,A6 (j:=0) (v:=V.str (Str.ofString "cover")) rfl,rfl,_,rfl,E7 ?_⟩
   refine ⟨_,rfl,wp,_,_,_,rfl,rfl,hw,A6 (j:=0) (v:=V.str (Str.ofString "cover")) rfl,rfl,_,rfl,E7 ?_⟩
   refine ⟨_,rfl,wp,_,_,_,rfl,rfl,hw,A6 (j:=0) (v:=V.str (Str.ofString "cover")) rfl,rfl,_,rfl,N9 ?_⟩
   exact ⟨_,rfl,_,rfl,np,rl,nms,rs,rfl,SqL.of hn,NN,hrl,hR,l12,fun H1 s1=>qq _ rfl H1 s1⟩
  | cut x y=>
   obtain ⟨hx,hy,hxy⟩:=ha
   refine ⟨_,rfl,wp,_,_,_,rfl,rfl,hw,A6 (j:=0) (v:=V.str (Str.ofString "cut")) rfl,rfl,_,rfl,E7 ?_⟩
   refine ⟨_,rfl,wp,_,_,_,rfl,rfl,hw,A6 (j:=0) (v:=V.str (Str.ofString "cut")) rfl,rfl,_,rfl,E7 ?_⟩
   refine ⟨_,rfl,wp,_,_,_,rfl,rfl,hw,A6 (j:=0) (v:=V.str (Str.ofString "cut")) rfl,rfl,_,rfl,E7 ?_⟩
   refine ⟨_,rfl,wp,_,_,_,rfl,rfl,hw,A6 (j:=0) (v:=V.str (Str.ofString "cut")) rfl,rfl,_,rfl,E7 ?_⟩
   refine ⟨_,rfl,wp,_,_,_,rfl,rfl,hw,A6 (j:=0) (v:=V.str (Str.ofString "cut")) rfl,rfl,_,rfl,N9 ?_⟩
   refine ⟨_,rfl,_,rfl,_,rfl,_,rfl,sl,_,_,_,rfl,rfl,hs,A6 (j:=0) (v:=vN x) rfl,_,rfl,sl,_,_,_,rfl,rfl,hs,A6 (j:=1) (v:=vN y) rfl,nms.length,x,y,rl,rs,rfl,l7,hx,hy,hxy,hrl,hR,by omega,fun z t H1 R s1 hc _=>?_⟩
   have hb:x&&&y < 2 ^ nms.length:=Nat.lt_of_le_of_lt Nat.and_le_left hx
   refine ⟨np,t,nms,_,_,_,rfl,SqL.of (s1 _ _ hn),NN,Aaz hc,by decide,by decide,fun b e=>Yv hb R e,fun H2 s2=>qq _ ?_ H2 (s1.trans s2)⟩
   show some (Adf nms _ x y)=_
   unfold Adf
   rw [R.unfF]
  | parts=>
   refine ⟨_,rfl,wp,_,_,_,rfl,rfl,hw,A6 (j:=0) (v:=V.str (Str.ofString "parts")) rfl,rfl,_,rfl,E7 ?_⟩
   refine ⟨_,rfl,wp,_,_,_,rfl,rfl,hw,A6 (j:=0) (v:=V.str (Str.ofString "parts")) rfl,rfl,_,rfl,E7 ?_⟩
   refine ⟨_,rfl,wp,_,_,_,rfl,rfl,hw,A6 (j:=0) (v:=V.str (Str.ofString "parts")) rfl,rfl,_,rfl,E7 ?_⟩
   refine ⟨_,rfl,wp,_,_,_,rfl,rfl,hw,A6 (j:=0) (v:=V.str (Str.ofString "parts")) rfl,rfl,_,rfl,E7 ?_⟩
   refine ⟨_,rfl,wp,_,_,_,rfl,rfl,hw,A6 (j:=0) (v:=V.str (Str.ofString "parts")) rfl,rfl,_,rfl,E7 ?_⟩
   refine ⟨_,rfl,wp,_,_,_,rfl,rfl,hw,A6 (j:=0) (v:=V.str (Str.ofString "parts")) rfl,rfl,_,rfl,N9 ?_⟩
   refine ⟨_,rfl,_,rfl,_,rfl,nms.length,rl,rs,rfl,l7,hrl,hR,by omega,fun hb H1 s1=>qe (by show (if _ then _ else _)=_; rw [if_pos hb]) H1 s1,fun hb p H1 s1 hp0 hp=>⟨np,p,nms,_,rfl,SqL.of (s1 _ _ hn),NN,SqL.of hp,by omega,Cov.lt ⟨l7,?_⟩,fun H2 s2=>qq _ (by show (if _ then _ else _)=_; rw [if_neg (by omega)]) H2 (s1.trans s2)⟩⟩
   exact Br hR
  | tree=>
   refine ⟨_,rfl,wp,_,_,_,rfl,rfl,hw,A6 (j:=0) (v:=V.str (Str.ofString "tree")) rfl,rfl,_,rfl,E7 ?_⟩
   refine ⟨_,rfl,wp,_,_,_,rfl,rfl,hw,A6 (j:=0) (v:=V.str (Str.ofString "tree")) rfl,rfl,_,rfl,E7 ?_⟩
   refine ⟨_,rfl,wp,_,_,_,rfl,rfl,hw,A6 (j:=0) (v:=V.str (Str.ofString "tree")) rfl,rfl,_,rfl,E7 ?_⟩
   refine ⟨_,rfl,wp,_,_,_,rfl,rfl,hw,A6 (j:=0) (v:=V.str (Str.ofString "tree")) rfl,rfl,_,rfl,E7 ?_⟩
   refine ⟨_,rfl,wp,_,_,_,rfl,rfl,hw,A6 (j:=0) (v:=V.str (Str.ofString "tree")) rfl,rfl,_,rfl,E7 ?_⟩
   refine ⟨_,rfl,wp,_,_,_,rfl,rfl,hw,A6 (j:=0) (v:=V.str (Str.ofString "tree")) rfl,rfl,_,rfl,E7 ?_⟩
   refine ⟨_,rfl,_,rfl,nms.length,rl,rs,rfl,l7,hrl,hR,by omega,fun hb H1 s1=>qe (by show (if _ then _ else _)=_; exact if_pos hb) H1 s1,fun hb v H1 s1 hv=>?_⟩
   have dp:=Hb (m:=nms.length) (rs:=rs.map Rl.d) _ (2 ^ nms.length - 1) (Zd_ _) (by omega)
   refine ⟨v,_,rfl,hv,by omega,hb,fun l H2 s2 hl0 hl=>?_⟩
   replace s2:=s1.trans s2
   refine ⟨_,rfl,wp,_,_,_,rfl,rfl,(s2.seq hw),A6 (j:=0) (v:=V.str (Str.ofString "tree")) rfl,rfl,_,rfl,N9 ?_⟩
   have lv:=Tr.lvs_le (trP nms.length (rs.map Rl.d) (2 ^ nms.length - 1))
   exact ⟨_,rfl,_,rfl,np,l,nms,_,rfl,SqL.of (s2 _ _ hn),NN,SqL.of hl,by omega,Z5 _ _ (Nat.le_refl _) (by omega),fun H3 s3=>qq _ (by show (if _ then _ else _)=_; exact if_neg (by unfold Z8; omega)) H3 (s2.trans s3)⟩
  | part x y=>
   obtain ⟨hx,hy⟩:=ha
   refine ⟨_,rfl,wp,_,_,_,rfl,rfl,hw,A6 (j:=0) (v:=V.str (Str.ofString "part")) rfl,rfl,_,rfl,E7 ?_⟩
   refine ⟨_,rfl,wp,_,_,_,rfl,rfl,hw,A6 (j:=0) (v:=V.str (Str.ofString "part")) rfl,rfl,_,rfl,E7 ?_⟩
   refine ⟨_,rfl,wp,_,_,_,rfl,rfl,hw,A6 (j:=0) (v:=V.str (Str.ofString "part")) rfl,rfl,_,rfl,E7 ?_⟩
   refine ⟨_,rfl,wp,_,_,_,rfl,rfl,hw,A6 (j:=0) (v:=V.str (Str.ofString "part")) rfl,rfl,_,rfl,E7 ?_⟩
   refine ⟨_,rfl,wp,_,_,_,rfl,rfl,hw,A6 (j:=0) (v:=V.str (Str.ofString "part")) rfl,rfl,_,rfl,E7 ?_⟩
   refine ⟨_,rfl,wp,_,_,_,rfl,rfl,hw,A6 (j:=0) (v:=V.str (Str.ofString "part")) rfl,rfl,_,rfl,E7 ?_⟩
   refine ⟨_,rfl,_,rfl,nms.length,rl,rs,rfl,l7,hrl,hR,by omega,fun hb H1 s1=>qe (by show (if _ then _ else _)=_; exact if_pos hb) H1 s1,fun hb v H1 s1 hv=>?_⟩
   have dp:=Hb (m:=nms.length) (rs:=rs.map Rl.d) _ (2 ^ nms.length - 1) (Zd_ _) (by omega)
   refine ⟨v,_,rfl,hv,by omega,hb,fun l H2 s2 hl0 hl=>?_⟩
   replace s2:=s1.trans s2
   refine ⟨_,rfl,wp,_,_,_,rfl,rfl,(s2.seq hw),A6 (j:=0) (v:=V.str (Str.ofString "part")) rfl,rfl,_,rfl,E7 ?_⟩
   refine ⟨_,rfl,_,rfl,_,rfl,_,rfl,_,rfl,sl,_,_,_,rfl,rfl,(s2.seq hs),A6 (j:=0) (v:=vN x) rfl,_,rfl,sl,_,_,_,rfl,rfl,(s2.seq hs),A6 (j:=1) (v:=vN y) rfl,(by show 3<=sizeLine; decide),fun r hr0=>?_⟩
   have s3:=Same.new (o:=.tup [V.str (Str.ofString "settle"),vN x,vN y]) hr0
   have h3:E4 (upd H2 r (.tup [V.str (Str.ofString "settle"),vN x,vN y])) r true x y:=A3
   have hl3:=s3 _ _ hl
   replace s3:=s2.trans s3
   generalize upd H2 r (.tup [V.str (Str.ofString "settle"),vN x,vN y])=H3 at s3 h3 hl3
   have one:=Qw (trP nms.length (rs.map Rl.d) (2 ^ nms.length - 1))
   refine ⟨nms.length,x,y,rl,l,r,rs,_,rfl,l7,hx,s3.seq hrl,hR.same s3,by omega,SqL.of hl3,Z5 _ _ (Zd_ _) (by omega),h3,fun hb2=>qe ?_ H3 s3,fun h1 h10 t H4 s4 hG _=>?_⟩
   ·show (if _ then _ else if _ then _ else _)=_
    rw [if_neg (by unfold Z8; omega)]
    exact if_pos (by unfold Z8; omega)
   replace s4:=s3.trans s4
   refine ⟨np,t,nms,_,_,_,rfl,SqL.of (s4 _ _ hn),NN,Wm hG,by decide,by decide,fun b e=>Wl l7 hx e,fun H5 s5=>qq _ ?_ H5 (s4.trans s5)⟩
   show (if _ then _ else if _ then _ else _)=_
   rw [if_neg (by unfold Z8; omega),if_neg (by unfold Z8; omega)]
   rfl
end
end Own
namespace Own
open PySem L2
structure Df (K:Θf) (mg:Str->Option Value) (x:Str) (st:Stmt) (f:Addr) (ps:List Str) (fd:FuncData):Prop where
 F:Fun K x x st f fd
 m:mg x=some (.ref f)
 k:Θk K f
 b:Binds K fd ps []
theorem df_mk {K:Θf} {h:Heap} {mg:Str->Option Value} {x:Str} {st:Stmt} {f:Addr} {ps:List Str} {oc:Value} {od an:Option Addr} {osl:Array (Option Value)} {kV doc pm cdv ct:Value} (X:K.In h) (G:h.Ns mainGlobals mg)
  (a:PySem.W.nsIn K mainGlobals x=some (some (.ref f))) (l:K.lookup f=some ⟨oc,od,.func (PySem.W.fnOf x x (O9 st) (N0 st) (A7 st) .none kV doc pm an cdv ct),osl⟩) (c:PySem.W.codeIn K cdv x=true) (k:PySem.W.keepIn K (.ref f)=true)
  (b:∀kV doc pm an cdv ct (us:List Value),us.length=ps.length->bindArgs (PySem.W.fnOf x x (O9 st) (N0 st) (A7 st) .none kV doc pm an cdv ct) ⟨us,[]⟩=pure (ps.zip us)):∃fd,Df K mg x st f ps fd:=
 ⟨_,Cq l c k,PySem.W.mg_of X G a,k,(Cq (st:=st) l c k).binds b⟩
theorem v1 {us:List Value}:us.length=1->∃a,us=[a]:=fun h=>match us,h with | [a],_=>⟨a,rfl⟩
theorem v2 {us:List Value}:us.length=2->∃a b,us=[a,b]:=fun h=>match us,h with | [a,b],_=>⟨a,b,rfl⟩
theorem v3 {us:List Value}:us.length=3->∃a b c,us=[a,b,c]:=fun h=>match us,h with | [a,b,c],_=>⟨a,b,c,rfl⟩
theorem v4 {us:List Value}:us.length=4->∃a b c d,us=[a,b,c,d]:=fun h=>match us,h with | [a,b,c,d],_=>⟨a,b,c,d,rfl⟩

theorem all_mk {l:PySem.W.OpenLaw} {w:World} {K:PySem.W.Frag} {h:Heap} {mg:Str→Option Value} {fa:Addr} (X:K.In h) (G:h.Ns mainGlobals mg) (hfa:mg "law" = some (.ref fa))
  (dH:∃fd,Df K mg "has_column" Aex fH ["some","column"] fd)
  (dC:∃fd,Df K mg "columns_of" Rk fC ["some"] fd)
  (dAL:∃fd,Df K mg "all_of" Uq fAL ["many"] fd)
  (dIW:∃fd,Df K mg "is_within" Kq fIW ["one","other"] fd)
  (dMO:∃fd,Df K mg "with_one_more" Rm fMO ["sets","some"] fd)
  (dSW:∃fd,Df K mg "sets_within" Pn fSW ["some"] fd)
  (dCU:∃fd,Df K mg "can_use" Ke fCU ["rule","block"] fd)
  (dI:∃fd,Df K mg "listed" Kk fI ["block"] fd)
  (dUD:∃fd,Df K mg "used" Zj fUD ["rule","fixed","blocks","at"] fd)
  (dBG:∃fd,Df K mg "begun" Pe fBG ["many","some"] fd)
  (dFU:∃fd,Df K mg "first_use" Pi fFU ["rules","blocks"] fd)
  (dUN:∃fd,Df K mg "unfolded" Aez fUN ["many","rules","some"] fd)
  (dBR:∃fd,Df K mg "first_breaking" Aeu fBR ["rule","blocks"] fd)
  (dFO:∃fd,Df K mg "follows" Aew fFO ["many","rules","rule"] fd)
  (dDF:∃fd,Df K mg "does_follow" Yy fDF ["many","rules","rule"] fd)
  (dSL:∃fd,Df K mg "settled" Gj fSL ["many","rules","some"] fd)
  (dSG:∃fd,Df K mg "single_rules" W0 fSG ["rules"] fd)
  (dLE:∃fd,Df K mg "with_least_lefts" Pk fLE ["many","rules"] fd)
  (dNE:∃fd,Df K mg "without_needless" Zd fNE ["many","rules"] fd)
  (dCV:∃fd,Df K mg "cover" Pg fCV ["many","rules"] fd)
  (dFT:∃fd,Df K mg "first_torn" Zh fFT ["blocks","one","other"] fd)
  (dCI:∃fd,Df K mg "cut_in_two" Ph fCI ["many","rules","one","other"] fd)
  (dTA:∃fd,Df K mg "told_again" Kb fTA ["many","rules","part","some"] fd)
  (dTW:∃fd,Df K mg "twice" Pp fTW ["many","rules","part"] fd)
  (dTR:∃fd,Df K mg "tree_of" Zi fTR ["many","rules","part"] fd)
  (dCO:∃fd,Df K mg "count_parts" Pf fCO ["tree"] fd)
  (dCT:∃fd,Df K mg "cut_tree" Gf fCT ["many","rules"] fd)
  (dLV:∃fd,Df K mg "leaves" Kj fLV ["tree"] fd)
  (dHO:∃fd,Df K mg "holds_one" Y8 fHO ["some","found"] fd)
  (dKY:∃fd,Df K mg "keys" Zb fKY ["many","rules"] fd)
  (dFG:∃fd,Df K mg "first_gain" Ao fFG ["many","rules","parts","some"] fd)
  (dPX:∃fd,Df K mg "part_by_part" Kn fPX ["many","rules","parts","rule"] fd)
  (dBL:∃fd,Df K mg "parts_by_left" Kd fBL ["rules"] fd)
  (dWK:∃fd,Df K mg "with_a_key" Bv fWK ["parts","found"] fd)
  (dIN:∃fd,Df K mg "without_inner" Kh fIN ["parts"] fd)
  (dPB:∃fd,Df K mg "parts_by_cover" Acc fPB ["many","rules"] fd)
  (dISN:∃fd,Df K mg "is_name" Ez fISN ["word"] fd)
  (dAN:∃fd,Df K mg "are_names" Y7 fAN ["words"] fd)
  (dSN:∃fd,Df K mg "set_named" Zf fSN ["names","words"] fd)
  (dNI:∃fd,Df K mg "names_in" Bt fNI ["names","some"] fd)
  (dFR:∃fd,Df K mg "first_rule_word" Aev fFR ["words"] fd)
  (dRN:∃fd,Df K mg "read_names" Ap fRN ["line"] fd)
  (dRR:∃fd,Df K mg "read_rule" Dd fRR ["names","line"] fd)
  (dRE:∃fd,Df K mg "read" Ze fRE ["text"] fd)
  (dSR:∃fd,Df K mg "show_rule" De fSR ["names","rule"] fd)
  (dSH:∃fd,Df K mg "shown" Ko fSH ["names","rules"] fd)
  (dSS:∃fd,Df K mg "show_set" Gk fSS ["names","some"] fd)
  (dRS:∃fd,Df K mg "read_set" Gh fRS ["names","text"] fd)
  (dHF:∃fd,Df K mg "has_form" Bs fHF ["words","form"] fd)
  (dFM:∃fd,Df K mg "form_of" Kg fFM ["words"] fd)
  (dWO:∃fd,Df K mg "words_of" Gm fWO ["row"] fd)
  (dST:∃fd,Df K mg "show_sets" Y9 fST ["names","sets"] fd)
  (dSC:∃fd,Df K mg "show_cover" Bu fSC ["names","rules"] fd)
  (dPA:∃fd,Df K mg "show_paper" Km fPA ["names","paper"] fd)
  (dTO:∃fd,Df K mg "show_told" Zg fTO ["names","told","good"] fd)
  (dAW:∃fd,Df K mg "answer" Kc fAW ["names","rules","words","sets"] fd)
  (dCA:∃fd,Df K mg "_law_cell_at" Kf fCA ["_law_script","_law_k"] fd)
  (dNA:∃fd,Df K mg "_law_names" Gg fNA ["_law_cell","_law_count"] fd)
  (dRU:∃fd,Df K mg "_law_rule" Kl fRU ["_law_cell","_law_many"] fd)
  (dLR:∃fd,Df K mg "_law_rules" Fa fLR ["_law_script","_law_many"] fd)
  (dTB:∃fd,Df K mg "_law_table" Po fTB ["_law_script","_law_most"] fd)
  (dIX:∃fd,Df K mg "_law_in" sIn fIX ["_law_names_here","_law_some"] fd)
  (dLL:∃fd,Df K mg "_law_line" Pj fLL ["_law_names_here","_law_rule_here"] fd)
  (dLT:∃fd,Df K mg "_law_text" Ki fLT ["_law_names_here","_law_rules_here"] fd)
  (dSE:∃fd,Df K mg "_law_set" Aey fSE ["_law_names_here","_law_some"] fd)
  (dFL:∃fd,Df K mg "_law_full" Za fFL ["_law_desk","_law_row"] fd)
  (dLX1:∃fd,Df K mg "_law_let" Zc fLX1 ["_law_desk","_law_names_here","_law_rules_here","_law_cell"] fd)
  (dAS:∃fd,Df K mg "_law_answer" Aet fAS ["_law_desk","_law_row"] fd)
  (dAZ:∃fd,Df K mg "_law_as_anew" Yx fAZ ["_law_desk","_law_names_here","_law_rules_here","_law_rows"] fd)
  (dDO:∃fd,Df K mg "_law_done" Yz fDO ["_law_desk","_law_names_here","_law_rules_here","_law_cell"] fd)
  (dQU:∃fd,Df K mg "_law_question" Pm fQU ["_law_names_here","_law_cell"] fd)
  (dQ:∃fd,Df K mg "law" Ur fQ ["_law_script"] fd)
  {tkLN:Tok} (aLN:PySem.W.nsIn K mainGlobals "LONGEST_NAME" = some (some (.int 8 tkLN))) {tkMC:Tok} (aMC:PySem.W.nsIn K mainGlobals "MOST_COLUMNS" = some (some (.int 7 tkMC))) {tkMR:Tok} (aMR:PySem.W.nsIn K mainGlobals "MOST_RULES" = some (some (.int 12 tkMR))) {tkMT:Tok} (aMT:PySem.W.nsIn K mainGlobals "MOST_TREE_PARTS" = some (some (.int 60 tkMT))) {tkMP:Tok} (aMP:PySem.W.nsIn K mainGlobals "MOST_PARTS" = some (some (.int 10 tkMP)))
  {CTM CST RWA FA CD fDI fSY fLM fDM fF0 fF1 fF2 fF3 fF4 fF5 fF6 fF7 fF8 fF9 fF10 fF11:Addr} (aTM:PySem.W.nsIn K mainGlobals "TooMany" = some (some (.ref CTM))) (aST:PySem.W.nsIn K mainGlobals "NoSet" = some (some (.ref CST))) (eTM:PySem.W.excIn K CTM [.type "ValueError",.type "Exception",.type "BaseException",.type "object"] "ValueError.__new__" = true) (eST:PySem.W.excIn K CST [.type "ValueError",.type "Exception",.type "BaseException",.type "object"] "ValueError.__new__" = true) (xTM:PySem.W.exmOne K (.ref CTM) (.ref CTM)=some true) (aLE:PySem.W.nsIn K mainGlobals "LETTERS" = some (some (.str "abcdefghijklmnopqrstuvwxyz" tkLE))) (aRWW:PySem.W.nsIn K mainGlobals "RULE_WORDS" = some (some (.ref RWA))) (lRWW:K.lookup RWA=some ⟨.type "tuple",odRW,.seq #[.str "settle" taRW,.str "deal" tbRW] nRW,slRW⟩) (aFM:PySem.W.nsIn K mainGlobals "FORMS" = some (some (.ref FA))) (lFM:K.lookup FA=some ⟨.type "tuple",odFM,.seq #[.ref fF0,.ref fF1,.ref fF2,.ref fF3,.ref fF4,.ref fF5,.ref fF6,.ref fF7,.ref fF8,.ref fF9,.ref fF10,.ref fF11] nFM,slFM⟩) (lF0:K.lookup fF0=some ⟨.type "tuple",odF0,.seq #[.str "show" tF0a] nF0,slF0⟩) (lF1:K.lookup fF1=some ⟨.type "tuple",odF1,.seq #[.str "follows" tF1a,.str "SET" tF1b,.str "settle" tF1c,.str "SET" tF1d] nF1,slF1⟩) (lF2:K.lookup fF2=some ⟨.type "tuple",odF2,.seq #[.str "follows" tF2a,.str "SET" tF2b,.str "deal" tF2c,.str "SET" tF2d] nF2,slF2⟩) (lF3:K.lookup fF3=some ⟨.type "tuple",odF3,.seq #[.str "keys" tF3a] nF3,slF3⟩) (lF4:K.lookup fF4=some ⟨.type "tuple",odF4,.seq #[.str "cover" tF4a] nF4,slF4⟩) (lF5:K.lookup fF5=some ⟨.type "tuple",odF5,.seq #[.str "cut" tF5a,.str "SET" tF5b,.str "SET" tF5c] nF5,slF5⟩) (lF6:K.lookup fF6=some ⟨.type "tuple",odF6,.seq #[.str "tree" tF6a] nF6,slF6⟩) (lF7:K.lookup fF7=some ⟨.type "tuple",odF7,.seq #[.str "parts" tF7a] nF7,slF7⟩) (lF8:K.lookup fF8=some ⟨.type "tuple",odF8,.seq #[.str "part" tF8a,.str "SET" tF8b,.str "settle" tF8c,.str "SET" tF8d] nF8,slF8⟩) (lF9:K.lookup fF9=some ⟨.type "tuple",odF9,.seq #[.str "let" tF9a,.str "SET" tF9b,.str "settle" tF9c,.str "SET" tF9d] nF9,slF9⟩) (lF10:K.lookup fF10=some ⟨.type "tuple",odF10,.seq #[.str "let" tF10a,.str "SET" tF10b,.str "deal" tF10c,.str "SET" tF10d] nF10,slF10⟩) (lF11:K.lookup fF11=some ⟨.type "tuple",odF11,.seq #[.str "drop" tF11a,.str "NUMBER" tF11b] nF11,slF11⟩) (aDK:PySem.W.nsIn K mainGlobals "Desk" = some (some (.ref CD))) (pgD:PySem.W.plainGet K CD Str.empty=true) (hdD:PySem.W.hasDictIn K CD=true) (poD:PySem.W.plainOver K CD=true) (saD:PySem.W.findIn K (.ref CD) "__setattr__" = some (some (.builtin "object.__setattr__"))) (mkD:PySem.W.makesIn K CD=true) (kcD:PySem.W.keepIn K (.ref CD)=true) (nND:PySem.W.findIn K (.ref CD) "names" = some none) (nRD:PySem.W.findIn K (.ref CD) "rules" = some none) (aDI:PySem.W.findIn K (.ref CD) "__init__" = some (some (.ref fDI))) (iDI:PySem.W.isFn K (.ref fDI)=true) (lDI:K.lookup fDI=some ⟨ocDI,odDI,.func (PySem.W.fnOf "__init__" "Desk.__init__" (O9 Dc) (N0 Dc) (A7 Dc) .none kVDI dcDI pmDI anDI cdDI ctDI),slDI⟩) (cDI:PySem.W.codeIn K cdDI "Desk.__init__" = true) (kDI:PySem.W.keepIn K (.ref fDI)=true) (aSY:PySem.W.findIn K (.ref CD) "say" = some (some (.ref fSY))) (iSY:PySem.W.isFn K (.ref fSY)=true) (lSY:K.lookup fSY=some ⟨ocSY,odSY,.func (PySem.W.fnOf "say" "Desk.say" (O9 Gi) (N0 Gi) (A7 Gi) .none kVSY dcSY pmSY anSY cdSY ctSY),slSY⟩) (cSY:PySem.W.codeIn K cdSY "Desk.say" = true) (kSY:PySem.W.keepIn K (.ref fSY)=true) (aLM:PySem.W.findIn K (.ref CD) "let" = some (some (.ref fLM))) (iLM:PySem.W.isFn K (.ref fLM)=true) (lLM:K.lookup fLM=some ⟨ocLM,odLM,.func (PySem.W.fnOf "let" "Desk.let" (O9 Io) (N0 Io) (A7 Io) .none kVLM dcLM pmLM anLM cdLM ctLM),slLM⟩) (cLM:PySem.W.codeIn K cdLM "Desk.let" = true) (kLM:PySem.W.keepIn K (.ref fLM)=true) (aDM:PySem.W.findIn K (.ref CD) "drop" = some (some (.ref fDM))) (iDM:PySem.W.isFn K (.ref fDM)=true) (lDM:K.lookup fDM=some ⟨ocDM,odDM,.func (PySem.W.fnOf "drop" "Desk.drop" (O9 An) (N0 An) (A7 An) .none kVDM dcDM pmDM anDM cdDM ctDM),slDM⟩) (cDM:PySem.W.codeIn K cdDM "Desk.drop" = true) (kDM:PySem.W.keepIn K (.ref fDM)=true)
  (zlen:mg "len" = none) (zrange:mg "range" = none) (zenumerate:mg "enumerate" = none) (zlist:mg "list" = none) (zint:mg "int" = none) (zisinstance:mg "isinstance" = none) (zstr:mg "str" = none) (zsorted:mg "sorted" = none) (zany:mg "any" = none) (zall:mg "all" = none) (zset:mg "set" = none) (zzip:mg "zip" = none) :
  ∃fd:FuncData,(∀(s:Shared) (v:Value),BindsTo s fd ⟨[v],[]⟩ [("_law_script",v)])∧∀base:Heap,K.In base→base.Ns mainGlobals mg→FnOk l.prog w K mg base CX0 141 fa fd ["_law_script"] (Ru K):=by
 obtain ⟨fdH,FH,mH,kH,bH⟩:=dH
 obtain ⟨fdC,FC,mC,kC,bC⟩:=dC
 obtain ⟨fdAL,FAL,mAL,kAL,bAL⟩:=dAL
 obtain ⟨fdIW,FIW,mIW,kIW,bIW⟩:=dIW
 obtain ⟨fdMO,FMO,mMO,kMO,bMO⟩:=dMO
 obtain ⟨fdSW,FSW,mSW,kSW,bSW⟩:=dSW
 obtain ⟨fdCU,FCU,mCU,kCU,bCU⟩:=dCU
 obtain ⟨fdI,FI,mI,kI,bI⟩:=dI
 obtain ⟨fdUD,FUD,mUD,kUD,bUD⟩:=dUD
 obtain ⟨fdBG,FBG,mBG,kBG,bBG⟩:=dBG
 obtain ⟨fdFU,FFU,mFU,kFU,bFU⟩:=dFU
 obtain ⟨fdUN,FUN,mUN,kUN,bUN⟩:=dUN
 obtain ⟨fdBR,FBR,mBR,kBR,bBR⟩:=dBR
 obtain ⟨fdFO,FFO,mFO,kFO,bFO⟩:=dFO
 obtain ⟨fdDF,FDF,mDF,kDF,bDF⟩:=dDF
 obtain ⟨fdSL,FSL,mSL,kSL,bSL⟩:=dSL
 obtain ⟨fdSG,FSG,mSG,kSG,bSG⟩:=dSG
 obtain ⟨fdLE,FLE,mLE,kLE,bLE⟩:=dLE
 obtain ⟨fdNE,FNE,mNE,kNE,bNE⟩:=dNE
 obtain ⟨fdCV,FCV,mCV,kCV,bCV⟩:=dCV
 obtain ⟨fdFT,FFT,mFT,kFT,bFT⟩:=dFT
 obtain ⟨fdCI,FCI,mCI,kCI,bCI⟩:=dCI
 obtain ⟨fdTA,FTA,mTA,kTA,bTA⟩:=dTA
 obtain ⟨fdTW,FTW,mTW,kTW,bTW⟩:=dTW
 obtain ⟨fdTR,FTR,mTR,kTR,bTR⟩:=dTR
 obtain ⟨fdCO,FCO,mCO,kCO,bCO⟩:=dCO
 obtain ⟨fdCT,FCT,mCT,kCT,bCT⟩:=dCT
 obtain ⟨fdLV,FLV,mLV,kLV,bLV⟩:=dLV
 obtain ⟨fdHO,FHO,mHO,kHO,bHO⟩:=dHO
 obtain ⟨fdKY,FKY,mKY,kKY,bKY⟩:=dKY
 obtain ⟨fdFG,FFG,mFG,kFG,bFG⟩:=dFG
 obtain ⟨fdPX,FPX,mPX,kPX,bPX⟩:=dPX
 obtain ⟨fdBL,FBL,mBL,kBL,bBL⟩:=dBL
 obtain ⟨fdWK,FWK,mWK,kWK,bWK⟩:=dWK
 obtain ⟨fdIN,FIN,mIN,kIN,bIN⟩:=dIN
 obtain ⟨fdPB,FPB,mPB,kPB,bPB⟩:=dPB
 obtain ⟨fdISN,FISN,mISN,kISN,bISN⟩:=dISN
 obtain ⟨fdAN,FAN,mAN,kAN,bAN⟩:=dAN
 obtain ⟨fdSN,FSN,mSN,kSN,bSN⟩:=dSN
 obtain ⟨fdNI,FNI,mNI,kNI,bNI⟩:=dNI
 obtain ⟨fdFR,FFR,mFR,kFR,bFR⟩:=dFR
 obtain ⟨fdRN,FRN,mRN,kRN,bRN⟩:=dRN
 obtain ⟨fdRR,FRR,mRR,kRR,bRR⟩:=dRR
 obtain ⟨fdRE,FRE,mRE,kRE,bRE⟩:=dRE
 obtain ⟨fdSR,FSR,mSR,kSR,bSR⟩:=dSR
 obtain ⟨fdSH,FSH,mSH,kSH,bSH⟩:=dSH
 obtain ⟨fdSS,FSS,mSS,kSS,bSS⟩:=dSS
 obtain ⟨fdRS,FRS,mRS,kRS,bRS⟩:=dRS
 obtain ⟨fdHF,FHF,mHF,kHF,bHF⟩:=dHF
 obtain ⟨fdFM,FFM,mFM,kFM,bFM⟩:=dFM
 obtain ⟨fdWO,FWO,mWO,kWO,bWO⟩:=dWO
 obtain ⟨fdST,FST,mST,kST,bST⟩:=dST
 obtain ⟨fdSC,FSC,mSC,kSC,bSC⟩:=dSC
 obtain ⟨fdPA,FPA,mPA,kPA,bPA⟩:=dPA
 obtain ⟨fdTO,FTO,mTO,kTO,bTO⟩:=dTO
 obtain ⟨fdAW,FAW,mAW,kAW,bAW⟩:=dAW
 obtain ⟨fdCA,FCA,mCA,kCA,bCA⟩:=dCA
 obtain ⟨fdNA,FNA,mNA,kNA,bNA⟩:=dNA
 obtain ⟨fdRU,FRU,mRU,kRU,bRU⟩:=dRU
 obtain ⟨fdLR,FLR,mLR,kLR,bLR⟩:=dLR
 obtain ⟨fdTB,FTB,mTB,kTB,bTB⟩:=dTB
 obtain ⟨fdIX,FIX,mIX,kIX,bIX⟩:=dIX
 obtain ⟨fdLL,FLL,mLL,kLL,bLL⟩:=dLL
 obtain ⟨fdLT,FLT,mLT,kLT,bLT⟩:=dLT
 obtain ⟨fdSE,FSE,mSE,kSE,bSE⟩:=dSE
 obtain ⟨fdFL,FFL,mFL,kFL,bFL⟩:=dFL
 obtain ⟨fdLX1,FLX1,mLX1,kLX1,bLX1⟩:=dLX1
 obtain ⟨fdAS,FAS,mAS,kAS,bAS⟩:=dAS
 obtain ⟨fdAZ,FAZ,mAZ,kAZ,bAZ⟩:=dAZ
 obtain ⟨fdDO,FDO,mDO,kDO,bDO⟩:=dDO
 obtain ⟨fdQU,FQU,mQU,kQU,bQU⟩:=dQU
 obtain ⟨fdQ,FQ,mQ,kQ,bQ⟩:=dQ
 have e:=hfa.symm.trans mQ
 cases e
 have mLN:=PySem.W.mg_of X G aLN
 have mMC:=PySem.W.mg_of X G aMC
 have mMR:=PySem.W.mg_of X G aMR
 have mMT:=PySem.W.mg_of X G aMT
 have mMP:=PySem.W.mg_of X G aMP
 obtain ⟨_,_,kV,doc,pm,an,cdv,ct,_,rfl,_,_⟩:=id FQ.ex
 refine ⟨PySem.W.fnOf "law" "law" (O9 Ur) (N0 Ur) (A7 Ur) .none kV doc pm an cdv ct,fun s v=>.of_eq rfl,fun base _ _=>?_⟩
 have mTM:=PySem.W.mg_of X G aTM
 have mLET:=PySem.W.mg_of X G aLE
 have mRWW:=PySem.W.mg_of X G aRWW
 have mFMS:=PySem.W.mg_of X G aFM
 have mDK:=PySem.W.mg_of X G aDK
 have hRW:RWT K RWA:=fun H=>.inr ⟨_,#[.str "settle" taRW,.str "deal" tbRW],_,lRWW,rfl,rfl,(by show 2≤sizeLine; decide),.cons ⟨_,rfl⟩ (.cons ⟨_,rfl⟩ .nil)⟩
 have fone:∀(k:Nat) (f:Addr) (fs:List Str),[fF0,fF1,fF2,fF3,fF4,fF5,fF6,fF7,fF8,fF9,fF10,fF11][k]? = some f→formsL[k]? = some fs→∀H:Hp,SqT K H f (fs.map V.str):=fun k f fs h1 h2 H=>by
  match k,h1,h2 with
  | 0,h1,h2=>cases h1; cases h2; exact .inr ⟨_,#[.str "show" tF0a],_,lF0,rfl,rfl,(by show 1≤sizeLine; decide),(.cons ⟨_,rfl⟩ .nil)⟩
  | 1,h1,h2=>cases h1; cases h2; exact .inr ⟨_,#[.str "follows" tF1a,.str "SET" tF1b,.str "settle" tF1c,.str "SET" tF1d],_,lF1,rfl,rfl,(by show 4≤sizeLine; decide),(.cons ⟨_,rfl⟩ (.cons ⟨_,rfl⟩ (.cons ⟨_,rfl⟩ (.cons ⟨_,rfl⟩ .nil))))⟩
  | 2,h1,h2=>cases h1; cases h2; exact .inr ⟨_,#[.str "follows" tF2a,.str "SET" tF2b,.str "deal" tF2c,.str "SET" tF2d],_,lF2,rfl,rfl,(by show 4≤sizeLine; decide),(.cons ⟨_,rfl⟩ (.cons ⟨_,rfl⟩ (.cons ⟨_,rfl⟩ (.cons ⟨_,rfl⟩ .nil))))⟩
  | 3,h1,h2=>cases h1; cases h2; exact .inr ⟨_,#[.str "keys" tF3a],_,lF3,rfl,rfl,(by show 1≤sizeLine; decide),(.cons ⟨_,rfl⟩ .nil)⟩
  | 4,h1,h2=>cases h1; cases h2; exact .inr ⟨_,#[.str "cover" tF4a],_,lF4,rfl,rfl,(by show 1≤sizeLine; decide),(.cons ⟨_,rfl⟩ .nil)⟩
  | 5,h1,h2=>cases h1; cases h2; exact .inr ⟨_,#[.str "cut" tF5a,.str "SET" tF5b,.str "SET" tF5c],_,lF5,rfl,rfl,(by show 3≤sizeLine; decide),(.cons ⟨_,rfl⟩ (.cons ⟨_,rfl⟩ (.cons ⟨_,rfl⟩ .nil)))⟩
  | 6,h1,h2=>cases h1; cases h2; exact .inr ⟨_,#[.str "tree" tF6a],_,lF6,rfl,rfl,(by show 1≤sizeLine; decide),(.cons ⟨_,rfl⟩ .nil)⟩
  | 7,h1,h2=>cases h1; cases h2; exact .inr ⟨_,#[.str "parts" tF7a],_,lF7,rfl,rfl,(by show 1≤sizeLine; decide),(.cons ⟨_,rfl⟩ .nil)⟩
  | 8,h1,h2=>cases h1; cases h2; exact .inr ⟨_,#[.str "part" tF8a,.str "SET" tF8b,.str "settle" tF8c,.str "SET" tF8d],_,lF8,rfl,rfl,(by show 4≤sizeLine; decide),(.cons ⟨_,rfl⟩ (.cons ⟨_,rfl⟩ (.cons ⟨_,rfl⟩ (.cons ⟨_,rfl⟩ .nil))))⟩
  | 9,h1,h2=>cases h1; cases h2; exact .inr ⟨_,#[.str "let" tF9a,.str "SET" tF9b,.str "settle" tF9c,.str "SET" tF9d],_,lF9,rfl,rfl,(by show 4≤sizeLine; decide),(.cons ⟨_,rfl⟩ (.cons ⟨_,rfl⟩ (.cons ⟨_,rfl⟩ (.cons ⟨_,rfl⟩ .nil))))⟩
  | 10,h1,h2=>cases h1; cases h2; exact .inr ⟨_,#[.str "let" tF10a,.str "SET" tF10b,.str "deal" tF10c,.str "SET" tF10d],_,lF10,rfl,rfl,(by show 4≤sizeLine; decide),(.cons ⟨_,rfl⟩ (.cons ⟨_,rfl⟩ (.cons ⟨_,rfl⟩ (.cons ⟨_,rfl⟩ .nil))))⟩
  | 11,h1,h2=>cases h1; cases h2; exact .inr ⟨_,#[.str "drop" tF11a,.str "NUMBER" tF11b],_,lF11,rfl,rfl,(by show 2≤sizeLine; decide),(.cons ⟨_,rfl⟩ (.cons ⟨_,rfl⟩ .nil))⟩
  | n + 12,h1,h2=>cases h1
 have hFM:FMT K FA [fF0,fF1,fF2,fF3,fF4,fF5,fF6,fF7,fF8,fF9,fF10,fF11]:=⟨fun H=>.inr ⟨_,#[.ref fF0,.ref fF1,.ref fF2,.ref fF3,.ref fF4,.ref fF5,.ref fF6,.ref fF7,.ref fF8,.ref fF9,.ref fF10,.ref fF11],_,lFM,rfl,rfl,(by show 12≤sizeLine; decide),(.cons rfl (.cons rfl (.cons rfl (.cons rfl (.cons rfl (.cons rfl (.cons rfl (.cons rfl (.cons rfl (.cons rfl (.cons rfl (.cons rfl .nil))))))))))))⟩,rfl,fone⟩
 have OTM:Exc K "TooMany" CTM:=⟨aTM,eTM⟩
 have OST:Exc K "NoSet" CST:=⟨aST,eST⟩
 have T:DK K CD:=⟨⟨pgD,hdD,poD,saD⟩,nND,nRD⟩
 have FDI:=Cq (st:=Dc) lDI cDI kDI
 have FSY:=Cq (st:=Gi) lSY cSY kSY
 have bDI:=FDI.binds (ps:=["self","text"]) fun _ _ _ _ _ _ us hl=>by obtain ⟨_,_,rfl⟩:=v2 hl; rfl
 have FLM:=Cq (st:=Io) lLM cLM kLM
 have FDM:=Cq (st:=An) lDM cDM kDM
 have bLM:=FLM.binds (ps:=["self","rule"]) fun _ _ _ _ _ _ us hl=>by obtain ⟨_,_,rfl⟩:=v2 hl; rfl
 have bDM:=FDM.binds (ps:=["self","word"]) fun _ _ _ _ _ _ us hl=>by obtain ⟨_,_,rfl⟩:=v2 hl; rfl
 have bSY:=FSY.binds (ps:=["self","row"]) fun _ _ _ _ _ _ us hl=>by obtain ⟨_,_,rfl⟩:=v2 hl; rfl
 have GH:=Ad5 (P:=l.prog) (w:=w) (mg:=mg) (base:=base) FH
 have GC:=Abi FC GH mH kH bH zrange
 have GAL:=Ad0 (P:=l.prog) (w:=w) (mg:=mg) (base:=base) FAL
 have GIW:=Ug (P:=l.prog) (w:=w) (mg:=mg) (base:=base) FIW
 have GMO:=Abp FMO GC mC kC bC zsorted
 have GSW:=Yb FSW GMO mMO kMO bMO
 have GCU:=Tx (P:=l.prog) (w:=w) (mg:=mg) (base:=base) FCU
 have GI:=Ub (P:=l.prog) (w:=w) (mg:=mg) (base:=base) FI
 have GUD:=Abx FUD GI mI kI bI
 have GBG:=Xo FBG GI mI kI bI GAL mAL kAL bAL
 have GFU:=Xt FFU GCU mCU kCU bCU zenumerate
 have GUN:=Aea FUN GBG mBG kBG bBG GFU mFU kFU bFU GUD mUD kUD bUD
 have GBR:=Ad2 FBR GCU mCU kCU bCU
 have GFO:=Ad3 FFO GUN mUN kUN bUN GBR mBR kBR bBR
 have GFW:=GFO.imp Wg
 have GDF:=Abk FDF GFW mFO kFO bFO
 have GSL:=Ov FSL GUN mUN kUN bUN
 have GSG:=Uf FSG GC mC kC bC
 have GLE:=Xv FLE GDF mDF kDF bDF GC mC kC bC zlist zenumerate
 have GNE:=Abq FNE GDF mDF kDF bDF zlist zlen
 have GCV:=Xp FCV GNE mNE kNE bNE GLE mLE kLE bLE GSG mSG kSG bSG
 have GHO:=Ml FHO GIW mIW kIW bIW zany
 have GKY:=Abn FKY GAL mAL kAL bAL GSW mSW kSW bSW GHO mHO kHO bHO GSL mSL kSL bSL
 have GBL:=Tw (P:=l.prog) (w:=w) (base:=base) FBL zlist
 have GWK:=Oy FWK GHO mHO kHO bHO zany
 have GIN:=Xu FIN GIW mIW kIW bIW zlist zlen zany
 have GPB:=Ad7 FPB GWK mWK kWK bWK GBL mBL kBL bBL GCV mCV kCV bCV GKY mKY kKY bKY GIN mIN kIN bIN OTM mMP zlen
 have GTA:=Xn FTA GUN mUN kUN bUN GIW mIW kIW bIW zlen
 have GTW:=Ye FTW GTA mTA kTA bTA GMO mMO kMO bMO
 have GTR:=Qz FTR GTW mTW kTW bTW mTR kTR bTR 128
 have GCO:=Mj (P:=l.prog) (w:=w) (mg:=mg) (base:=base) FCO mCO kCO bCO 128
 have GCT:=Oq FCT GTR mTR kTR bTR GAL mAL kAL bAL GCO mCO kCO bCO OTM mMT
 have GLV:=Ii (P:=l.prog) (w:=w) (mg:=mg) (base:=base) FLV mLV kLV bLV 128
 have GFT:=Abw FFT GIW mIW kIW bIW
 have GCI:=Xq FCI GIW mIW kIW bIW GAL mAL kAL bAL GUN mUN kUN bUN GFT mFT kFT bFT
 have GFG:=Js FFG GSL mSL kSL bSL zenumerate
 have GPX:=Ue FPX GFG mFG kFG bFG GIW mIW kIW bIW OTM mMP zlen
 have GISN:=Ua (P:=l.prog) (w:=w) (base:=base) FISN mLN mLET mRWW hRW zlen zall
 have GAN:=Mi FAN GISN mISN kISN bISN mMC zlen zall zset
 have GSN:=Abu (P:=l.prog) (w:=w) (mg:=mg) (base:=base) FSN
 have GNI:=Ot FNI GC mC kC bC
 have GFR:=Ad4 (P:=l.prog) (w:=w) (base:=base) FFR mRWW hRW zenumerate
 have GRN:=Jt FRN GAN mAN kAN bAN
 have GRR:=Mm FRR GFR mFR kFR bFR GSN mSN kSN bSN
 have GRE:=Abr FRE GRN mRN kRN bRN GRR mRR kRR bRR mMR zisinstance zstr zrange zlen
 have GSR:=Mn FSR GNI mNI kNI bNI
 have GSH:=Yc FSH GSR mSR kSR bSR
 have GSS:=Ox FSS GNI mNI kNI bNI
 have GRS:=Ou FRS GSN mSN kSN bSN OST zisinstance zstr
 have GHF:=Os (P:=l.prog) (w:=w) (base:=base) FHF zlen zzip zall
 have GFM:=Tz FFM GHF mHF kHF bHF mFMS hFM
 have GWO:=Oz (P:=l.prog) (w:=w) (base:=base) FWO zisinstance zstr
 have GST:=Mo FST GSS mSS kSS bSS
 have GSC:=Ow FSC GCV mCV kCV bCV GSR mSR kSR bSR zlen
 have GPA:=Xz FPA GSS mSS kSS bSS zstr
 have GTO:=Abv FTO GSS mSS kSS bSS
 have GAW:=Tv FAW GSH mSH kSH bSH GPA mPA kPA bPA GFO mFO kFO bFO GST mST kST bST GKY mKY kKY bKY GSC mSC kSC bSC GTO mTO kTO bTO GCI mCI kCI bCI GPB mPB kPB bPB GCT mCT kCT bCT GLV mLV kLV bLV GPX mPX kPX bPX zlen
 have GDI:=Xs FDI GRE mRE kRE bRE T
 have GSY:=Ad8 FSY GWO mWO kWO bWO GFM mFM kFM bFM GRS.calm mRS kRS bRS GAW mAW kAW bAW zzip rfl fone T
 have MS:Meth K CD "say" fSY:=⟨aSY,iSY,kSY⟩
 have MD:Mk K CD fDI:=⟨mkD,aDI,iDI,kcD⟩
 have GLM:=Abj (P:=l.prog) (w:=w) (base:=base) FLM OTM mMR T zlen
 have GDM:=Xr (P:=l.prog) (w:=w) (base:=base) FDM T zlen zrange zstr
 have GSL:=Abt FSY GWO mWO kWO bWO GFM mFM kFM bFM GRS.calm mRS kRS bRS (⟨aLM,iLM,kLM⟩:Meth K CD "let" fLM) GLM bLM zzip rfl fone T
 have GSD:=Abs FSY GWO mWO kWO bWO GFM mFM kFM bFM GRS.calm mRS kRS bRS (⟨aDM,iDM,kDM⟩:Meth K CD "drop" fDM) GDM bDM zzip rfl fone T
 have GCD:=Ty (P:=l.prog) (w:=w) (base:=base) FCA zlen
 have GCA:=GCD.imp Sy
 have GNA:=Xy (P:=l.prog) (w:=w) (base:=base) FNA zrange
 have GRU:=Ud (P:=l.prog) (w:=w) (mg:=mg) (base:=base) FRU
 have GLR:=Uc FLR GCA mCA kCA bCA GRU mRU kRU bRU zrange
 have GTB:=Yd FTB GCA mCA kCA bCA GNA mNA kNA bNA GLR mLR kLR bLR
 have GIX:=Af5 (P:=l.prog) (w:=w) (base:=base) FIX zrange zlen
 have GLL:=Xw FLL GIX mIX kIX bIX
 have GLT:=Xx FLT GLL mLL kLL bLL
 have GSE:=Ad9 FSE GIX mIX kIX bIX
 have GFL:=Abm FFL mTM xTM T MS GSL bSY
 have GLX1:=Abo FLX1 GRU mRU kRU bRU GSE mSE kSE bSE GFL mFL kFL bFL T MS GSL.calm bSY zlen
 have GAS:=Ad1 FAS mTM xTM T MS GSY bSY
 have GAZ:=Abh FAZ GLT mLT kLT bLT GAS mAS kAS bAS MD GDI bDI mDK
 have GDO:=Abl FDO GSE mSE kSE bSE GLX1 mLX1 kLX1 bLX1 GAZ mAZ kAZ bAZ T MS GSL.calm bSY GSD zlen zstr
 have GQU:=Ya FQU GRU mRU kRU bRU GSE mSE kSE bSE zlen
 exact Ad6 FQ GCA mCA kCA bCA GTB mTB kTB bTB GLT mLT kLT bLT GDO mDO kDO bDO GAZ mAZ kAZ bAZ GQU mQU kQU bQU T MS GSY.calm bSY MD GDI bDI mDK zrange
theorem walk {l:PySem.W.OpenLaw} {q:Program} {loose:List Str} {XP:(Str→Option Value)→Heap→Prop} {YP:World→Heap→Prop} {d:DefRec} {K:Params→PySem.W.Frag} (hn:l.most=some 63) (hdf:d.params.defaults=[])
  (hY:∀(w:World) (h:Heap),YP w h→(K w.params).In h)
  (F:∀(w:World) (mg:Str→Option Value) (fa:Addr) (h:Heap),(K w.params).In h→h.Ns mainGlobals mg→mg d.name=some (.ref fa)→
   ∃fd:FuncData,(∀(s:Shared) (u:Value),BindsTo s fd ⟨[u],[]⟩ [("_law_script",u)])∧∀base:Heap,(K w.params).In base→base.Ns mainGlobals mg→FnOk l.prog w (K w.params) mg base CX0 141 fa fd ["_law_script"] (Ru (K w.params))) :
  PySem.W.WalkO q loose XP YP l.row.toRowW d [] (fun f vs=>PySem.call f vs):=
 L2.walk_of (n:=63) (k:=141) (x:="_law_script") (CX:=fun _=>CX0) (sp:=fun w=>Ru (K w.params)) hn (by decide) hdf ⟨rfl,by decide,by decide⟩ hY F (fun _ _ a ns hl hO hS=>⟨a,ns,rfl,SqF.of hO hS,hl,fun _=>rfl⟩) fun _ _ _ _ _ z=>z
end Own
namespace PySem.W.Fast
def tw3808828953837019554:=True
def tw11175463243884949470:=True
def tw11723157412109630165:=True
def tw7514642485097171978:=True
def tw11860470388099768556:=True
def tw2468695442867393477:=True
def tw5646457858658176830:=True
def tw16508556793324941300:=True
def tw880572628847083088:=True
def tw7918238833136424466:=True
def tw16460493951225606578:=True
def tw14248260038607345468:=True
def tw2401522592783031348:=True
def tw1575164449516130389:=True
def tw17686031234164839045:=True
def tw17364313406395355847:=True
def tw2240801570320384681:=True
def tw12370531526277641960:=True
def tw16984745909019438178:=True
def tw14742427580630899258:=True
def tw1502152623232717509:=True
def tw16660475875038712844:=True
def tw6084585773340819563:=True
def tw10226438248370741920:=True
def tw14791005322885866850:=True
def tw14697194962667364779:=True
def tw2605499782061138246:=True
def tw528495518788783812:=True
def tw7881532673330606683:=True
def tw16451986849636552588:=True
def tw16975493977856236312:=True
def tw1012796901068254388:=True
def tw9466934336334222158:=True
def tw3290477406639531874:=True
def tw10483107937958341794:=True
def tw17453005925949416412:=True
def tw4126160697716032254:=True
def tw6327086888359957656:=True
def tw8422797685167603390:=True
def tw5694540112823183638:=True
def tw7877036604110591485:=True
def tw12170810019997004974:=True
def tw2879323241164589621:=True
def tw11000433788497203996:=True
def tw18211078868673374109:=True
def tw6554481103729262788:=True
def tw15043020670819860816:=True
def tw10031592415046451480:=True
def tw2050980997807404338:=True
def tw148982421228192709:=True
def tw8304205182936596276:=True
def tw9826775022113220009:=True
def tw14529870172754360676:=True
def tw2108916272334705425:=True
def tw15039837407227853231:=True
def tw7567982883536301637:=True
def tw8741613504566925663:=True
def tw1309686070998292889:=True
def tw11302662528117900847:=True
def tw16523287452891674097:=True
def tw5221662799081622580:=True
def tw1663652747853010739:=True
def tw12847731310035983273:=True
def tw17025146550891508804:=True
def tw17866067294938270280:=True
def tw8607112141091774744:=True
def tw12443796382340463111:=True
def tw9646587024294804722:=True
def tw5374502284588783160:=True
def tw11982580502711729818:=True
def tw3680907734129981165:=True
def tw4990160762605647876:=True
def tw1624868781399182100:=True
def tw16396390049410368835:=True
def tw13952886519670904318:=True
def tw17542141684773853994:=True
def tw15481816265909865280:=True
def tw17415120140445959966:=True
def tw14880875544918224053:=True
def tw403410815152300832:=True
def tw1649668641150221422:=True
def tw15896042976607939655:=True
def tw15363298387632262744:=True
def tw10347637156734993657:=True
def tw11798705087716038626:=True
def tw11373789438563386537:=True
def tw17012697658708399126:=True
def tw10125561461697280094:=True
def tw11360332055198132715:=True
def tw15848387634945736247:=True
def tw7530075357433060202:=True
def tw6200659597206589216:=True
def tw104237239432295220:=True
def tw13461748541512784963:=True
def tw14915597296317070376:=True
def tw2338861515275468456:=True
def tw17088739423088825920:=True
def tw4933961189868278422:=True
def tw17508231065141900680:=True
def tw15198448534182017156:=True
def tw11286089139148267709:=True
def tw704392345781778204:=True
def tw3758412271358806081:=True
def tw2928924965847303802:=True
def tw2241895088466347718:=True
def tw12749056644138682054:=True
def tw4168118022030085635:=True
def tw16992551335246495555:=True
def tw6488863520015316175:=True
def tw6119531539009163915:=True
def tw9769597892776934557:=True
def tw11632625827583284672:=True
def tw687758399210310296:=True
def tw14112545239784994465:=True
def tw16716383762993198622:=True
def tw4132195015686883779:=True
def tw6930088771170172129:=True
def tw7604021500282687796:=True
def tw5125752751039361720:=True
def tw14993280303575265855:=True
def tw7956140049799868621:=True
def tw10236865004051810884:=True
def tw14131412695322687960:=True
def tw15636217725861699523:=True
def tw12232214191323437187:=True
def tw3198604883944017033:=True
def tw4229205927764496309:=True
def tw13380667910719789657:=True
def tw9152173853968446166:=True
def tw10007270062049867104:=True
def tw9743779295746480416:=True
def tw16416982822250609116:=True
def tw13218195211105171826:=True
def tw1035071330225688726:=True
def tw4479289398594322434:=True
def tw7802260126454082425:=True
def tw11697876368828682883:=True
def tw7513130388365386374:=True
def tw704624969025335963:=True
def tw10090273775773305239:=True
def tw4194231115173895857:=True
def tw6759960794546519592:=True
def tw13825936511675818396:=True
def tw1037227443747811272:=True
def tw550751295460930145:=True
def tw9938457504451959909:=True
def tw9990108791955530358:=True
def tw1923125203969599541:=True
def tw18109378867888738752:=True
def tw4863743099537005826:=True
def tw17902554832112055045:=True
def tw14850929099129847237:=True
def tw11191522349902894055:=True
def tw5172472795266049537:=True
def tw18074221688784513994:=True
def tw2115798935369255121:=True
def tw2334195482905856975:=True
def tw6915439773822833591:=True
def tw4043427793736938978:=True
def tw5031611994173261669:=True
def tw16645723843456284084:=True
def tw15087098077247667797:=True
def tw10552697545612578035:=True
def tw5780964848098844192:=True
def tw4273074536356588919:=True
def tw17210379048803159967:=True
def tw17593150384572745777:=True
def tw8603527772146700717:=True
def tw14546791465360566376:=True
def tw10190140751979674721:=True
def tw9383523114631327038:=True
def tw4907516299638074220:=True
def tw9309683582310640445:=True
def tw11933053770478249561:=True
def tw4744556294097378506:=True
def tw33867668907238720:=True
def tw593616228894976773:=True
def tw26546850684607345:=True
def tw6948354222218052574:=True
def tw7019983757414781204:=True
def tw6534433315439066996:=True
def tw12781353627261157226:=True
def tw14582866386358483451:=True
def tw15862221504867522462:=True
def tw3547316465988074055:=True
def tw9357768777936801116:=True
def tw4581956854441651030:=True
def tw15100489447184469165:=True
def tw3411335062215878543:=True
def tw16676604092694979853:=True
def tw11943908384215021127:=True
def tw9158428016655272819:=True
def tw17507778575352832800:=True
def tw12578309217362014187:=True
def tw1622540868373822309:=True
def tw225671690355379381:=True
def tw10705916464856124077:=True
def tw3110571720837020181:=True
def tw15221620650918888161:=True
def tw3775328420467619748:=True
def tw6737560319560616812:=True
def tw37609319740891929:=True
def tw9265008840601652179:=True
def tw7364530266310978199:=True
def tw11761894073555594506:=True
def tw10070819229680769309:=True
def tw16956927755676863469:=True
def tw3517882245523631783:=True
def tw1434363305070364452:=True
def tw14672339217570656564:=True
def tw846569463443640388:=True
def tw983908673122438589:=True
def tw14225550392454051685:=True
def tw4378664070814622574:=True
def tw7202197983319645677:=True
def tw13898969199453376888:=True
def tw1596868189661004790:=True
def tw16709534684909472295:=True
def tw384974769202246872:=True
def tw7795239377591574113:=True
def tw15256824834665759666:=True
def tw18121294164279429693:=True
def tw11326983581968998951:=True
def tw8552608423116952552:=True
def tw10011634186372137812:=True
def tw2655307126425513031:=True
def tw14882557932615791397:=True
def tw13656167212382736133:=True
def tw6074441696405551218:=True
def tw10035098183862270469:=True
def tw464356293343427768:=True
def tw13642714049967393579:=True
def tw17792350684777310903:=True
def tw8480556275103316655:=True
def tw17417798409291803662:=True
def tw13209511140781664381:=True
def tw15607269247212150763:=True
def tw8806280427874230686:=True
def tw3787361775203556519:=True
def tw9117101914958511187:=True
def tw1276159274928096778:=True
def tw5080574814343166910:=True
def tw3879474104841801945:=True
def tw2832562767667651821:=True
def tw4041060626748934779:=True
def tw5252460763110608627:=True
def tw2765477870293252268:=True
def tw2996854057959130457:=True
def tw9408117816993166354:=True
def tw16085794980942603952:=True
def tw2647774783686910657:=True
def tw8873841867681911861:=True
def tw11595136664405716393:=True
def tw16538814799075697783:=True
def tw16269356405011848738:=True
def tw13294680754453304145:=True
def tw11448895666575929780:=True
def tw3406839080874804878:=True
def tw12167161444132608416:=True
def tw18170852614187505160:=True
def tw17790029893783681634:=True
def tw17693645581427881539:=True
def tw1146496851608977145:=True
def tw4677420061359184497:=True
def tw16155510395999770258:=True
def tw13897348539242329286:=True
def tw17676738111570345833:=True
def tw8195666941035912534:=True
def tw7878161798724197001:=True
def tw17810251977600987449:=True
def tw17127213186800015293:=True
def tw4816594138289302257:=True
def tw7942061484919446010:=True
def tw10856954158541891115:=True
def tw4544660563117434903:=True
def tw8981894225195330493:=True
def tw2372345783202978790:=True
def tw17642280430127636442:=True
def tw9848175107448085843:=True
def tw6369584863043198359:=True
def tw8380410876584301084:=True
def tw16549623328322225479:=True
def tw8283907913070924020:=True
def tw17354305961471674953:=True
def tw9438479498895471088:=True
def tw17642355139644147944:=True
def tw14626149010996534377:=True
def tw9239720751557450561:=True
def tw14221703429200871173:=True
def tw16836713344470076841:=True
def tw17149471790247200561:=True
def tw13842508291271965839:=True
def tw9907308794340778863:=True
def tw12139354440877910166:=True
def tw7848982898022477208:=True
def tw524994320198015949:=True
def tw4878115925778861970:=True
def tw10463374930892962350:=True
def tw11753863544092648718:=True
def tw12365148088830215064:=True
def tw17317523398200123772:=True
def tw670364806101545354:=True
def tw13963958027117390357:=True
def tw16013444811948089624:=True
def tw2378852424690707535:=True
def tw4805433983289307056:=True
def tw3588785946374723695:=True
def tw5452016525761950122:=True
def tw7163762690844198422:=True
def tw1915645596969793070:=True
def tw1158492609456274846:=True
def tw9636353994160861948:=True
def tw17082667076216564208:=True
def tw166562766656018779:=True
def tw5905819613386713641:=True
def tw11398743187395592178:=True
def tw2523054627619283111:=True
def tw4452004141074624435:=True
def tw14049639761626118566:=True
def tw12516876714344480167:=True
def tw18157039307523627502:=True
def tw3940078353987265968:=True
def tw5119593671298933760:=True
def tw12385710383230074031:=True
def tw9574917916008005467:=True
def tw1522343064921917273:=True
def tw4163369711082064674:=True
def tw11047164824758312103:=True
def tw767567015049040722:=True
def tw11275198837146441310:=True
def tw14492511531792635412:=True
def tw6115788520857014525:=True
def tw10932676110958579540:=True
def tw11136092105850794872:=True
def tw15007051968605779324:=True
def tw3231274614924640110:=True
def tw18431456237208846017:=True
def tw13077121824123053347:=True
def tw12127277637006782905:=True
def tw9589796438326593986:=True
def tw6948777476801093339:=True
def tw10840902862404180428:=True
def tw4572737892743646216:=True
def tw2760280909372962191:=True
def tw18005445670041252119:=True
def tw12481934725476290602:=True
def tw2750657140680919215:=True
def tw10694183329815279369:=True
def tw13467808577703173112:=True
def tw4465611446497603920:=True
def tw7151018533840081944:=True
def tw10950165952371777736:=True
def tw2912599643870284982:=True
def tw15278195859505886101:=True
def tw9475125014259616174:=True
def tw4918324312147972076:=True
def tw10522212437272047763:=True
def tw2553488378874035359:=True
def tw4547703279819803261:=True
def tw15522707709653595665:=True
def tw14192597016250649480:=True
def tw4986545419078335778:=True
def tw16248683459282242900:=True
def tw11889565149261572853:=True
def tw5313499278332764332:=True
def tw13035057009112971759:=True
def tw3645747424882018694:=True
def tw283150140713145355:=True
def tw14348920790096326004:=True
def tw5488214492177053854:=True
def tw6958448868881984160:=True
def tw13213994921019282554:=True
def tw18161660435744853977:=True
def tw5760330578513504341:=True
def tw7483217669978987412:=True
def tw8116210623565463792:=True
def tw2651902889070304814:=True
def tw6652414660341869109:=True
def tw5132907371208510731:=True
def tw16950772717015004371:=True
def tw10478205685337937215:=True
def tw10704717261093988925:=True
def tw14161898485879749881:=True
def tw6373291488468771162:=True
def tw1822125754616426847:=True
def tw14563044809716063398:=True
def tw10557308630940996960:=True
def tw6311245287361248506:=True
def tw5347274348377912050:=True
def tw301503178667172750:=True
def tw8873823815304779025:=True
def tw11052653069581585226:=True
def tw17699479462136373545:=True
def tw7997161526924005570:=True
def tw957636698588893186:=True
def tw16188304606853456641:=True
def tw14203185091266495488:=True
def tw2623097704979701263:=True
def tw13043427499729503287:=True
def tw10734212835184415019:=True
def tw8565741403894940354:=True
def tw13766689443035605248:=True
def tw5348911059640268394:=True
def tw16480854712218425405:=True
def tw8098840093765643941:=True
def tw8534423550376293358:=True
def tw12571991441203571962:=True
def tw13727428527910762868:=True
def tw7887256909569574626:=True
def tw3946097363386702716:=True
def tw7612414354444290962:=True
def tw7523293161172415044:=True
def tw17972026219122356642:=True
def tw11334377572182717671:=True
def tw8096297023973229021:=True
def tw16543453267244156136:=True
def tw12040759955782994740:=True
def tw16698163039147770337:=True
def tw3129073616658136908:=True
def tw9428874461633155177:=True
def tw7008233941762549087:=True
def tw905671013188604519:=True
def tw6522465114732198245:=True
def tw17773188738939234152:=True
def tw3180086208476894635:=True
def tw7019739332259976066:=True
def tw5849033764329156624:=True
def tw14591753939158603391:=True
def tw16171539122310783381:=True
def tw15148566902325657728:=True
def tw2196437974349384523:=True
def tw470077570675974646:=True
def tw16695286117423324219:=True
def tw12727819293674260173:=True
def tw9713877799763713198:=True
def tw197657334842571986:=True
def tw15345033465747185888:=True
def tw996306777410073721:=True
def tw7660574648470526647:=True
def tw9135957463757207710:=True
def tw6891981747495422473:=True
def tw11070436464143006904:=True
def tw10565858563955989111:=True
def tw13530343493611395001:=True
def tw11349822059637729078:=True
def tw12783654150638319301:=True
def tw18167219103836377324:=True
def tw17647468328908915317:=True
def tw17353096885328900505:=True
def tw15602703713359259241:=True
def tw15193884426482746946:=True
def tw13982995749207558334:=True
def tw6397931978457785245:=True
def tw5348238435153444925:=True
def tw10476214756967511216:=True
def tw15748434122645398003:=True
def tw2437210859222901973:=True
def tw85177548326445468:=True
def tw16290270483031300758:=True
def tw6936592170093120280:=True
def tw1571847279912492704:=True
def tw11918123084384740739:=True
def tw1395376493432754746:=True
def tw15417224662187524639:=True
def tw2287969538783975525:=True
def tw5993017152730153523:=True
def tw8893689889864917344:=True
def tw16862877829438958830:=True
def tw16224569132792755102:=True
def tw10163613004126288373:=True
def tw1286603516165780884:=True
def tw9348256162276320642:=True
def tw18394339573299595697:=True
def tw2790822439290820667:=True
def tw6052330052908758113:=True
def tw9814910362530811251:=True
def tw10283079066542560009:=True
def tw4210180631165355844:=True
def tw5378675838653036188:=True
def tw14764081892581791486:=True
def tw14863949593672259246:=True
def tw17232958030137552397:=True
def tw8705918482999407397:=True
def tw6190257133015629677:=True
def tw965421238983284026:=True
def tw339132448794865865:=True
def tw13146365542422918552:=True
def tw4022575223665761079:=True
def tw13951065346000552203:=True
def tw2109025162177231771:=True
def tw3595242603867297911:=True
def tw937302523091634201:=True
def tw4882827320929545043:=True
def tw8840672557815499390:=True
def tw18144055700019082339:=True
def tw17996997473091939367:=True
def tw12077347343815121550:=True
def tw12226929960227321526:=True
def tw509143088494967521:=True
def tw88983647628010518:=True
def tw9622429222936151544:=True
def tw8929750795791919092:=True
def tw8653840566134199809:=True
def tw12566477683356967294:=True
def tw4738624484377894537:=True
def tw1417887567910709909:=True
def tw1732173664111615717:=True
def tw8665534820940628560:=True
def tw13261862228397591061:=True
def tw4199526182284484643:=True
def tw4561941394211828666:=True
def tw9152063947898903121:=True
def tw12606208839615557033:=True
def tw3636134873432724664:=True
def tw11376493590890519520:=True
def tw14751130331099469232:=True
def tw10855256326329254824:=True
def tw11769532482986326554:=True
def tw15833327757896764245:=True
def tw14738826250970293034:=True
def tw14147982888850538752:=True
def tw7021373818467823317:=True
def tw10907352147719644312:=True
def tw9901711523923067303:=True
def tw15201122678187892816:=True
def tw2209606284929950652:=True
def tw12938470217201582236:=True
def tw10702865561463137717:=True
def tw4066851396259070351:=True
def tw7931443042407587757:=True
def tw13204506651902408085:=True
def tw12380076752180113024:=True
def tw5338591722326722879:=True
def tw11035063394241510895:=True
def tw17286996742235175471:=True
def tw3828455938320566642:=True
def tw1010569337459500718:=True
def tw1179865838728270505:=True
def tw15588528058249275579:=True
def tw15082898591045358952:=True
def tw12774160510267051254:=True
def tw7368782354717086016:=True
def tw13605301032769645957:=True
def tw17060251980843734501:=True
def tw2825584970977488656:=True
def tw17861120287314604105:=True
def tw16134071280112378831:=True
def tw1967056196356097442:=True
def tw18138060384270134483:=True
def tw12890672040056532651:=True
def tw6420073639379129818:=True
def tw12169398156357734087:=True
def tw10966233983366890979:=True
def tw6854447917203747496:=True
def tw10280269129734118867:=True
def tw16503443982919923953:=True
def tw10034276897232192425:=True
def tw6765604165528042935:=True
def tw18321091695991258412:=True
def tw3184157312743905265:=True
def tw2653523436132257510:=True
def tw15887234700132693791:=True
def tw9880557192972555235:=True
def tw4107272775175667008:=True
def tw686034424222417959:=True
def tw6813557811266540867:=True
def tw12633892502112893835:=True
end PySem.W.Fast
open PySem PySem.W PyProof.Rows
set_option maxRecDepth 100000 in
set_option maxHeartbeats 0 in
theorem PySem.Challenge.cw_splithouse_k86_rules_let_and_dropped_holds : PySem.Challenge.rw_splithouse_k86_rules_let_and_dropped.Holds := by
  w_on; o_law; k_head; (case hw=>w_witness2)
  k_fill
  refine Own.walk (l:=PySem.Challenge.rw_splithouse_k86_rules_let_and_dropped) rfl rfl (fun w h Y=>PySem.W.kIn_of Y) ?F
  case F=>
    intro w mg fa h KX G hmg
    refine' Own.all_mk KX G hmg ?dH ?dC ?dAL ?dIW ?dMO ?dSW ?dCU ?dI ?dUD ?dBG ?dFU ?dUN ?dBR ?dFO ?dDF ?dSL ?dSG ?dLE ?dNE ?dCV ?dFT ?dCI ?dTA ?dTW ?dTR ?dCO ?dCT ?dLV ?dHO ?dKY ?dFG ?dPX ?dBL ?dWK ?dIN ?dPB ?dISN ?dAN ?dSN ?dNI ?dFR ?dRN ?dRR ?dRE ?dSR ?dSH ?dSS ?dRS ?dHF ?dFM ?dWO ?dST ?dSC ?dPA ?dTO ?dAW ?dCA ?dNA ?dRU ?dLR ?dTB ?dIX ?dLL ?dLT ?dSE ?dFL ?dLX1 ?dAS ?dAZ ?dDO ?dQU ?dQ ?aLN ?aMC ?aMR ?aMT ?aMP ?aTM ?aST ?eTM ?eST ?xTM ?aLE ?aRWW ?lRWW ?aFM ?lFM ?lF0 ?lF1 ?lF2 ?lF3 ?lF4 ?lF5 ?lF6 ?lF7 ?lF8 ?lF9 ?lF10 ?lF11 ?aDK ?pgD ?hdD ?poD ?saD ?mkD ?kcD ?nND ?nRD ?aDI ?iDI ?lDI ?cDI ?kDI ?aSY ?iSY ?lSY ?cSY ?kSY ?aLM ?iLM ?lLM ?cLM ?kLM ?aDM ?iDM ?lDM ?cDM ?kDM ?zlen ?zrange ?zenumerate ?zlist ?zint ?zisinstance ?zstr ?zsorted ?zany ?zall ?zset ?zzip
    (case dC | dAL | dSW | dI | dSG | dCO | dLV | dBL | dIN | dISN | dAN | dFR | dRN | dRE | dFM | dWO | dQ=>refine' Own.df_mk KX G ?a ?l ?c ?k (fun _ _ _ _ _ _ us hl=>by obtain ⟨_,rfl⟩:=Own.v1 hl; rfl); (case a=>k_is); (case l=>k_is); (case c=>k_is); (case k=>k_is))
    (case dH | dIW | dMO | dCU | dBG | dFU | dBR | dLE | dNE | dCV | dCT | dHO | dKY | dWK | dPB | dSN | dNI | dRR | dSR | dSH | dSS | dRS | dHF | dST | dSC | dPA | dCA | dNA | dRU | dLR | dTB | dIX | dLL | dLT | dSE | dFL | dAS | dQU=>refine' Own.df_mk KX G ?a ?l ?c ?k (fun _ _ _ _ _ _ us hl=>by obtain ⟨_,_,rfl⟩:=Own.v2 hl; rfl); (case a=>k_is); (case l=>k_is); (case c=>k_is); (case k=>k_is))
    (case dUN | dFO | dDF | dSL | dFT | dTW | dTR | dTO=>refine' Own.df_mk KX G ?a ?l ?c ?k (fun _ _ _ _ _ _ us hl=>by obtain ⟨_,_,_,rfl⟩:=Own.v3 hl; rfl); (case a=>k_is); (case l=>k_is); (case c=>k_is); (case k=>k_is))
    (case dUD | dCI | dTA | dFG | dPX | dAW | dLX1 | dAZ | dDO=>refine' Own.df_mk KX G ?a ?l ?c ?k (fun _ _ _ _ _ _ us hl=>by obtain ⟨_,_,_,_,rfl⟩:=Own.v4 hl; rfl); (case a=>k_is); (case l=>k_is); (case c=>k_is); (case k=>k_is))
    (case aLN|aMC|aMR|aMT|aMP|aTM|aST=>k_is)
    (case eTM=>k_exc)
    (case eST=>k_exc)
    (case xTM=>kts_exm)
    (case aLE|aRWW|lRWW|aFM|lFM|lF0|lF1|lF2|lF3|lF4|lF5|lF6|lF7|lF8|lF9|lF10|lF11|aDK|pgD|hdD|poD|saD|mkD|kcD|nND|nRD|aDI|iDI|lDI|cDI|kDI|aSY|iSY|lSY|cSY|kSY|aLM|iLM|lLM|cLM|kLM|aDM|iDM|lDM|cDM|kDM=>k_is)
    (case zlen | zrange | zenumerate | zlist | zint | zisinstance | zstr | zsorted | zany | zall | zset | zzip=>refine PySem.W.mg_none_of KX G ?y; (case y=>k_is))


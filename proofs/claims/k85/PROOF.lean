import PyProof.Rows.All
import Wide.All
import OpenK.AllK
import Wide.FinOn
import Lean
import PyProof.EqAt
import PyProof.EqKinds
import PyProof.TupleCall
import KE.KTryMore
import KE.KIsAll
import PyProof.ExcBaseAll.ValueError
import PyProof.NsDelKeeps
import PyProof.ExcArgsOwn
import KE.KDictList
import PyProof.StrCalls2
import PyProof.StrBlockG
import PyProof.StrLawsChain
import PyProof.StrLawsIn
import PyProof.StrLawsRepr
import PyProof.ReprStr
import PyProof.StrBlockI
import PyProof.Rows.FStr
import KE.KSortTup
import PySem.SetTable
import PyProof.SetScanFacts
import PyProof.Rows.SetFrom
import PyProof.TupleKey
import PyProof.StrWalks
import PyProof.ExcClass2
import PyProof.InstStoreFacts
import OpenK.KMake
import KE.KSortAsk
import KE.RegKIsAll
import KE.RegKTryMore
import PySem.Challenge.RW_splithouse_k85_a_desk_refuses
set_option bootstrap.genMatcherCode false
set_option genSizeOf false
set_option genSizeOfSpec false
set_option Elab.async false
set_option linter.all false
set_option maxRecDepth 100000
universe u v
abbrev Θf := PySem.W.Frag
abbrev Θk (K : PySem.W.Frag) (f : PySem.Addr) : Prop := PySem.W.keepIn K (.ref f) = true
theorem Θm {α : Type u} {β : Type v} {f : α → β} {l : List α} {b : β} : (∃ a, a ∈ l ∧ f a = b) → b ∈ l.map f := List.mem_map.mpr
theorem Θn {α : Type u} {β : Type v} {f : α → β} {l : List α} {b : β} : b ∈ l.map f → ∃ a, a ∈ l ∧ f a = b := List.mem_map.mp
theorem Θl {α : Type u} {β : Type v} {as : List α} (f : α → β) : (as.map f).length = as.length := List.length_map f
theorem Θg {α : Type u} {β : Type v} {f : α → β} {l : List α} {i : Nat} : (l.map f)[i]? = l[i]?.map f := List.getElem?_map ..
theorem Θs {α : Type u} {a b : α} : a ∈ [b] → a = b := List.mem_singleton.mp
theorem Θa {α : Type u} {a : α} {s t : List α} : a ∈ s ++ t → a ∈ s ∨ a ∈ t := List.mem_append.mp
theorem Θc {α : Type u} {a : α} {l : List α} : a ∈ a :: l := List.mem_cons_self ..
theorem Θd {α : Type u} (y : α) {a : α} {l : List α} : a ∈ l → a ∈ y :: l := List.mem_cons_of_mem y
theorem Θe {α : Type u} {l : List α} {i : Nat} {a : α} : l[i]? = some a → a ∈ l := List.mem_of_getElem?
theorem Θh {α : Type u} {l : List α} {i : Nat} (h : i < l.length) : l[i]? = some l[i] := List.getElem?_eq_getElem h
theorem Θo {α : Type u} {a b : α} : some a = some b → a = b := Option.some.inj
noncomputable section
namespace L2
open PySem PySem.Spec PyProof.Rows
abbrev Za_:=@wpAny_bind
abbrev Zb_:=@wpAny_pure
abbrev Zc_:=@Heap.get?_push_of_some
abbrev Zd_:=@Nat.le_refl
abbrev Ze_:=@List.getElem?_eq_some_iff
abbrev Zf_:=@Bool.false_ne_true
abbrev Zg_:=@List.mem_cons
abbrev Zh_:=@List.mem_append_right
abbrev Zi_:=@List.not_mem_nil
abbrev Zj_:=@of_decide_eq_true
abbrev Zk_:=@wpS_bind
abbrev Zl_:=@wpS_pure
abbrev Zm_:=@Heap.get?_push_size
abbrev Zn_:=@Heap.lt_size
abbrev Zo_:=@Nat.le_trans
abbrev Zp_:=@Nat.zero_le
abbrev Zq_:=@Nat.lt_of_lt_of_le
abbrev Zr_:=@decide_eq_true
abbrev Zs_:=@Nat.ne_of_lt
abbrev Zt_:=@List.mem_append_left
abbrev Zu_:=@List.getD_eq_getElem?_getD
abbrev Zv_:=@List.length_append
abbrev Zw_:=@List.map_append
abbrev Zx_:=@List.size_toArray
abbrev Zy_:=@List.append_assoc
abbrev Zz_:=@Array.length_toList
abbrev ZA:=@List.length_cons
abbrev ZB:=@List.length_take
abbrev ZC:=@Array.getElem?_eq_getElem
abbrev ZD:=@List.getElem?_append_right
noncomputable abbrev Key:=Sum Int Str
noncomputable def Aby:Key->Value->Bool
 | .inl k,v=>Value.isInt k v
 | .inr x,v=>Value.isStrOf x v
noncomputable def Aft (w:World):Key->Int
 | .inl k=>hashInt k
 | .inr x=>hashStr w x
theorem G7:∀{k:Key} {v:Value},Aby k v=true->(∃i t,k=Sum.inl i/\v=Value.int i t)\/(∃x t,k=Sum.inr x/\v=Value.str x t)
 | .inl i,v,h=>by
  obtain ⟨t,e⟩:=Value.isInt_shape (k:=i) (v:=v) h
  exact .inl ⟨i,t,rfl,e⟩
 | .inr x,v,h=>by
  obtain ⟨t,e⟩:=Value.isStrOf_shape (x:=x) (v:=v) h
  exact .inr ⟨x,t,rfl,e⟩
theorem Acl (a b:Int):decide ((Sum.inl a:Key)=Sum.inl b)=(a == b):=by
 by_cases e:a=b
 ·subst e; simp
 ·have h:¬(Sum.inl a:Key)=Sum.inl b:=fun q=>e (Sum.inl.inj q)
  rw [decide_eq_false h]
  exact (beq_eq_false_iff_ne.mpr e).symm
theorem Aco (a b:Str):decide ((Sum.inr a:Key)=Sum.inr b)=decide (a=b):=by
 by_cases e:a=b
 ·subst e; simp
 ·have h:¬(Sum.inr a:Key)=Sum.inr b:=fun q=>e (Sum.inr.inj q)
  rw [decide_eq_false h,decide_eq_false e]
theorem Acm (a:Int) (b:Str):decide ((Sum.inl a:Key)=Sum.inr b)=false:=decide_eq_false (fun q=>nomatch q)
theorem Acn (a:Str) (b:Int):decide ((Sum.inr a:Key)=Sum.inl b)=false:=decide_eq_false (fun q=>nomatch q)
noncomputable def Qp (prog:Program) (w:World):PySem.KeyKind prog w Key where
 is:=Aby
 hash:=Aft w
 inj:=fun v a b ha hb=>by
  rcases G7 ha with ⟨i,t,rfl,rfl⟩ | ⟨x,t,rfl,rfl⟩
  ·rcases G7 hb with ⟨j,u,rfl,e⟩ | ⟨y,u,rfl,e⟩
   ·injection e with e1 _; rw [e1]
   ·exact nomatch e
  ·rcases G7 hb with ⟨j,u,rfl,e⟩ | ⟨y,u,rfl,e⟩
   ·exact nomatch e
   ·injection e with e1 _; rw [e1]
 byValue:=fun k v h=>by
  rcases G7 h with ⟨i,t,rfl,rfl⟩ | ⟨x,t,rfl,rfl⟩ <;> rfl
 pyHash:=fun hv h=>by
  rcases G7 hv with ⟨i,t,rfl,rfl⟩ | ⟨x,t,rfl,rfl⟩
  ·exact wpAny_pyHash_int h
  ·exact wpAny_pyHash_str h
 eqBool:=fun hu hv h=>by
  rcases G7 hu with ⟨i,t,rfl,rfl⟩ | ⟨x,t,rfl,rfl⟩
  ·rcases G7 hv with ⟨j,u,rfl,rfl⟩ | ⟨y,u,rfl,rfl⟩
   ·rw [Acl] at h; exact wpAny_eqBool_int h
   ·rw [Acm] at h; exact SeqAt.EqAt.int_str i t y u _ _ _ _ h
  ·rcases G7 hv with ⟨j,u,rfl,rfl⟩ | ⟨y,u,rfl,rfl⟩
   ·rw [Acn] at h; exact SeqAt.EqAt.str_int x t j u _ _ _ _ h
   ·rw [Aco] at h; exact wpAny_eqBool_str h
 «strs»:=fun k x t v h=>by
  rcases G7 h with ⟨i,u,rfl,e⟩ | ⟨y,u,rfl,e⟩
  ·exact nomatch e
  ·injection e with e1 _
   subst e1
   cases v <;> rfl
inductive V where
 | non | bl (b:Bool) | int (i:Int) | str (x:Str) | byt (b:Array UInt8) | flt (b:UInt64) | ref (a:Addr) | ty (n:String)
 deriving DecidableEq
noncomputable def RelV:V->Value->Prop
 | .non,u=>u=Value.none
 | .bl b,u=>u=Value.bool b
 | .int i,u=>∃t,u=Value.int i t
 | .str x,u=>∃t,u=Value.str x t
 | .byt b,u=>∃t,u=Value.bytes b t
 | .flt b,u=>∃t,u=Value.float b t
 | .ref a,u=>u=Value.ref a
 | .ty n,u=>u=Value.type n
noncomputable abbrev Vals:List V->List Value->Prop:=Paired RelV
theorem Vals.length {xs:List V} {us:List Value} (r:Vals xs us):xs.length=us.length:=Paired.length r
theorem Vals.get:∀{xs:List V} {us:List Value} {i:Nat} {x:V},Vals xs us->xs[i]? = some x->∃u,us[i]? = some u/\RelV x u
 | _,_,_,_,.nil,e=>by simp at e
 | _,_,0,_,.cons r _,e=>by simp at e; subst e; exact ⟨_,rfl,r⟩
 | _,_,i + 1,x,.cons _ t,e=>by
  obtain ⟨u,h1,h2⟩:=Vals.get (i:=i) (x:=x) t (by simpa using e)
  exact ⟨u,by simpa using h1,h2⟩
theorem Vals.set {x:V} {u:Value} (r:RelV x u):∀{xs:List V} {us:List Value} (i:Nat),Vals xs us->Vals (xs.set i x) (us.set i u)
 | _,_,_,.nil=>.nil
 | _,_,0,.cons _ t=>.cons r t
 | _,_,i + 1,.cons q t=>.cons q (Vals.set r i t)
theorem Vals.append:∀{xs ys:List V} {us ws:List Value},Vals xs us->Vals ys ws->Vals (xs++ys) (us++ws)
 | _,_,_,_,.nil,s=>s
 | _,_,_,_,.cons r t,s=>.cons r (Vals.append t s)
theorem Vals.take:∀{xs:List V} {us:List Value} (n:Nat),Vals xs us->Vals (xs.take n) (us.take n)
 | _,_,0,_=>.nil
 | _,_,_ + 1,.nil=>.nil
 | _,_,n + 1,.cons r t=>.cons r (Vals.take n t)
theorem Vals.drop:∀{xs:List V} {us:List Value} (n:Nat),Vals xs us->Vals (xs.drop n) (us.drop n)
 | _,_,0,r=>r
 | _,_,_ + 1,.nil=>.nil
 | _,_,n + 1,.cons _ t=>Vals.drop n t
noncomputable def RelO:Option V->Option Value->Prop
 | some v,some u=>RelV v u
 | none,none=>True
 | _,_=>False
noncomputable def KV {κ:Type}:List (κ × V)->List (κ × Value)->Prop:=Paired fun (p:κ × V) (q:κ × Value)=>p.1=q.1/\RelV p.2 q.2
noncomputable def kV:Key->V
 | .inl i=>.int i
 | .inr x=>.str x
inductive HO where
 | lst (xs:List V)
 | tup (xs:List V)
 | dK (kvs:List (Key × V)) | dT (kvs:List (List Key × V))
 | set (S:Int->Bool) (n:Nat)
 | ins (C dx:Addr) (fs:List (Str × V))
 | own (x:Addr)
 | xd (fs:List (Str × V))
 | met (f x:Addr)
 | rng (lo hi:Int)
 | frz (o:Obj) (u:HO)
 | tbl (ps:Array Value)
 | ext (φ:Heap->Prop)
noncomputable abbrev Hp:=Addr->Option HO
noncomputable def upd (H:Hp) (a:Addr) (o:HO):Hp:=fun b=>if b=a then some o else H b
theorem A6 {H:Hp} {a:Addr} {o:HO}:upd H a o a=some o:=by unfold upd; rw [if_pos rfl]
theorem C8 {H:Hp} {a b:Addr} {o:HO} (h:b≠a):upd H a o b=H b:=by unfold upd; rw [if_neg h]
theorem Abq {H:Hp} {a:Addr} {o u:HO}:upd (upd H a o) a u=upd H a u:=by
 funext b; unfold upd; split <;> rfl
theorem Ht {H:Hp} {a b:Addr} {o u:HO} (h:H a=some o) (h':H b=some u) (d:o≠u):a≠b:=by
 intro e; subst e; rw [h] at h'; exact d (Θo h')
theorem C4 {H:Hp} {a b:Addr} {o:HO} (h:H a=some o) (h':H b=none):a≠b:=by
 intro e; subst e; rw [h] at h'; cases h'
section
variable (P:Program) (w:World)
noncomputable def ObjOk (H:Hp) (h:Heap) (a:Addr):HO->Prop
 | .lst xs=>xs.length<=sizeLine/\∃(its:List Value) (n:Nat),Vals xs its/\h.get? a=some { cls:=.type "list",data:=.seq its.toArray n }
 | .tup xs=>xs.length<=sizeLine/\∃its:List Value,Vals xs its/\IsTup h a its.toArray
 | .dK kvs=>kvs.length<=sizeLine/\(a == sysModules)=false/\∃vs,KV kvs vs/\h.DictOf (Qp P w) a vs
 | .dT kvs=>kvs.length<=sizeLine/\(a == sysModules)=false/\∃xs:List (List Key × Addr × Value),
   Paired (fun (p:List Key × V) (q:List Key × Addr × Value)=>p.1=q.1/\H q.2.1=some (.tup (p.1.map kV))/\RelV p.2 q.2.2) kvs xs/\
   ∃o es ep,h.get? a=some o/\o.ExactDict/\o.data = .dict es ep/\es.toList=xs.map (entryOfKey (tupleKind (Qp P w)))/\(xs.map (·.1)).Nodup
 | .set S n=>h.SetOf (intKind P w) a S n
 | .ins C dx fs=>H dx=some (.own a)/\fs.length<=1000/\dx≠a/\h.get? a=some (PySem.W.instObj C dx)/\
   ∃mA,h.Ns1 dx mA/\(∀f,RelO (fs.lookup f) (mA f))/\PySem.Within mA (fs.map (·.1))
 | .own _=>∃o,h.get? a=some o
 | .xd fs=>∃mA,h.Ns1 a mA/\∀f,RelO (fs.lookup f) (mA f)
 | .rng lo hi=>∃t u v,h.get? a=some { cls:=.type "range",data:=.fields #[.int lo t,.int hi u,.int 1 v] }
 | .frz o u=>h.get? a=some o/\ObjOk H h a u
 | .tbl ps=>h.get? a=some { cls:=.none,data:=.fields ps }
 | .met f x=>h.get? a=some (PySem.W.methodObj (.ref f) (.ref x))
 | .ext φ=>φ h/\(∃o,h.get? a=some o)/\∀h1 h2:Heap,φ h1->(∀o,h1.get? a=some o->h2.get? a=some o)->φ h2
noncomputable def HOk (H:Hp) (h:Heap):Prop:=∀a o,H a=some o->ObjOk P w H h a o
end
section
variable {P:Program} {w:World} {H H':Hp} {h h':Heap} {a:Addr} {o:HO}
theorem ObjOk.lt (x:ObjOk P w H h a o):a < h.objs.size:=by
 cases o with
 | lst xs=>obtain ⟨_,_,_,_,e⟩:=x; exact Zn_ e
 | tup xs=>obtain ⟨_,_,_,p⟩:=x; exact p.lt
 | dK kvs=>obtain ⟨_,_,_,_,o,_,_,e,_⟩:=x; exact Zn_ e
 | dT kvs=>obtain ⟨_,_,_,_,o,_,_,e,_⟩:=x; exact Zn_ e
 | set S n=>obtain ⟨o,_,_,_,e,_⟩:=x; exact Zn_ e
 | ins C dx fs=>obtain ⟨_,_,_,e,_⟩:=x; exact Zn_ e
 | own y=>obtain ⟨_,e⟩:=x; exact Zn_ e
 | xd fs=>obtain ⟨_,⟨_,_,_,e,_⟩,_⟩:=x; exact Zn_ e
 | rng lo hi=>obtain ⟨_,_,_,e⟩:=x; exact Zn_ e
 | frz ob u=>obtain ⟨e,_⟩:=x; exact Zn_ e
 | tbl ps=>exact Zn_ (show h.get? a=some _ from x)
 | met f y=>exact Zn_ (show h.get? a=some _ from x)
 | ext φ=>obtain ⟨_,⟨_,e⟩,_⟩:=x; exact Zn_ e
theorem Paired.mapP {α β:Type} {F G:α->β->Prop}:∀{l₁:List α} {l₂:List β},Paired F l₁ l₂->(∀a b,F a b->G a b)->Paired G l₁ l₂
 | _,_,.nil,_=>.nil
 | _,_,.cons r t,f=>.cons (f _ _ r) (Paired.mapP t f)
theorem ObjOk.stay (x:ObjOk P w H h a o) (k:∀b u,(b=a\/H b=some (.own a))->h.get? b=some u->h'.get? b=some u)
  (ho:∀b,H b=some (.own a)->H' b=some (.own a)) (ht:∀b xs,H b=some (.tup xs)->H' b=some (.tup xs)):ObjOk P w H' h' a o:=by
 induction o with
 | lst xs=>obtain ⟨z,its,n,r,e⟩:=x; exact ⟨z,its,n,r,k _ _ (.inl rfl) e⟩
 | tup xs=>obtain ⟨z,its,r,ob,e,c⟩:=x; exact ⟨z,its,r,ob,k _ _ (.inl rfl) e,c⟩
 | dK kvs=>obtain ⟨z,y,vs,r,ob,es,ep,e,c⟩:=x; exact ⟨z,y,vs,r,ob,es,ep,k _ _ (.inl rfl) e,c⟩
 | dT kvs=>
  obtain ⟨z,y,xs,r,ob,es,ep,e,c⟩:=x
  exact ⟨z,y,xs,Paired.mapP r fun p q z=>⟨z.1,ht _ _ z.2.1,z.2.2⟩,ob,es,ep,k _ _ (.inl rfl) e,c⟩
 | set S n=>obtain ⟨ob,es,ep,t,e,c⟩:=x; exact ⟨ob,es,ep,t,k _ _ (.inl rfl) e,c⟩
 | ins C dx fs=>
  obtain ⟨d,z,ne,e,mA,⟨od,es,ep,e2,c⟩,r⟩:=x
  exact ⟨ho _ d,z,ne,k _ _ (.inl rfl) e,mA,⟨od,es,ep,k _ _ (.inr d) e2,c⟩,r⟩
 | own y=>obtain ⟨ob,e⟩:=x; exact ⟨ob,k _ _ (.inl rfl) e⟩
 | xd fs=>obtain ⟨mA,⟨od,es,ep,e,c⟩,r⟩:=x; exact ⟨mA,⟨od,es,ep,k _ _ (.inl rfl) e,c⟩,r⟩
 | rng lo hi=>obtain ⟨t,u,v,e⟩:=x; exact ⟨t,u,v,k _ _ (.inl rfl) e⟩
 | frz ob u ih=>obtain ⟨e,q⟩:=x; exact ⟨k _ _ (.inl rfl) e,ih q⟩
 | tbl ps=>
  have e:h.get? a=some { cls:=.none,data:=.fields ps }:=x
  show h'.get? a=some { cls:=.none,data:=.fields ps }
  exact k a _ (.inl rfl) e
 | met f y=>
  have e:h.get? a=some (PySem.W.methodObj (.ref f) (.ref y)):=x
  show h'.get? a=some (PySem.W.methodObj (.ref f) (.ref y))
  exact k a _ (.inl rfl) e
 | ext φ=>obtain ⟨p,⟨o,e⟩,st⟩:=x; exact ⟨st _ _ p fun o q=>k _ _ (.inl rfl) q,⟨o,k _ _ (.inl rfl) e⟩,st⟩
theorem HOk.lt (x:HOk P w H h) (e:H a=some o):a < h.objs.size:=(x a o e).lt
theorem HOk.fresh (x:HOk P w H h) (e:h.objs.size<=a):H a=none:=by
 cases q:H a with
 | none=>rfl
 | some u=>exact absurd (Zq_ (x.lt q) e) (Nat.lt_irrefl _)
theorem HOk.kept (x:HOk P w H h) (k:∀b u,h.get? b=some u->h'.get? b=some u):HOk P w H h':=fun a o e=>
 (x a o e).stay (fun b u _ q=>k b u q) (fun _ q=>q) fun _ _ q=>q
theorem HOk.laid (x:HOk P w H h) (k:∀b u,h.get? b=some u->h'.get? b=some u) (hp:h.objs.size<=a) (new:ObjOk P w (upd H a o) h' a o):HOk P w (upd H a o) h':=fun b u e=>by
 have hn:=x.fresh hp
 by_cases hb:b=a
 ·subst hb; rw [A6] at e; cases e; exact new
 ·rw [C8 hb] at e
  exact (x b u e).stay (fun c v _ q=>k c v q) (fun c q=>by rw [C8 (C4 q hn)]; exact q) fun c xs q=>by rw [C8 (C4 q hn)]; exact q
end
noncomputable def Rd (H:Hp) (a:Addr) (u:HO):Prop:=H a=some u\/∃o,H a=some (.frz o u)
theorem Rd.ok {P:Program} {w:World} {H:Hp} {h:Heap} {a:Addr} {u:HO} (r:Rd H a u) (x:HOk P w H h):ObjOk P w H h a u:=by
 rcases r with r | ⟨o,r⟩
 ·exact x a u r
 ·obtain ⟨_,q⟩:=x a _ r
  exact q
noncomputable def Mut:Option HO->Prop
 | some (.lst _)=>True
 | some (.dK _)=>True
 | some (.dT _)=>True
 | some (.set _ _)=>True
 | some (.ins _ _ _)=>True
 | some (.ext _)=>True
 | _=>False
section
variable {P:Program} {w:World} {H:Hp} {h h':Heap} {x e:Addr} {o':HO}
theorem HOk.write (ok:HOk P w H h) (mu:Mut (H x)) (he:e=x\/H e=some (.own x)) (k:∀b u,b≠e->h.get? b=some u->h'.get? b=some u) (heo:∃u,h'.get? e=some u)
  (new:ObjOk P w (upd H x o') h' x o'):HOk P w (upd H x o') h':=fun b u q=>by
 have nown:∀c y,H c=some (.own y)->c≠x:=fun c y r z=>by subst z; rw [r] at mu; exact mu
 have ntup:∀c xs,H c=some (.tup xs)->c≠x:=fun c xs r z=>by subst z; rw [r] at mu; exact mu
 by_cases hb:b=x
 ·subst hb; rw [A6] at q; cases q; exact new
 ·rw [C8 hb] at q
  by_cases hbe:b=e
  ·have q':H b=some (.own x):=by
    rcases he with z | z
    ·exact absurd (hbe.trans z) hb
    ·rw [hbe]; exact z
   rw [q] at q'; cases q'
   obtain ⟨v,hv⟩:=heo
   exact ⟨v,by rw [hbe]; exact hv⟩
  ·refine (ok b u q).stay (fun c v hc r=>k c v ?_ r) (fun c r=>by rw [C8 (nown c b r)]; exact r) fun c xs r=>by rw [C8 (ntup c xs r)]; exact r
   rcases hc with rfl | hc
   ·exact hbe
   ·rintro rfl
    rcases he with z | z
    ·exact nown c b hc z
    ·rw [hc] at z; cases z; exact hb rfl
end
structure Un (fs ex:List Addr) (H H':Hp) (h h':Heap):Prop where
 keep:∀b o,h.get? b=some o->H b=none->b∉fs->b∉ex->h'.get? b=some o
 slot:∀b o,h.get? b=some o->H b=none->b∈fs->b∉ex->∃sl,h'.get? b=some { o with slots:=sl }
 free:∀b o,h.get? b=some o->H b=none->b∉ex->H' b=none
 there:∀b o,h.get? b=some o->b∉ex->∃o',h'.get? b=some o'
 tups:∀b xs,H b=some (.tup xs)->H' b=some (.tup xs)
 frzs:∀b o u,H b=some (.frz o u)->H' b=some (.frz o u)
 tbls:∀b ps,H b=some (.tbl ps)->∃more,H' b=some (.tbl (ps++more))
section
variable {fs fs' ex ex':List Addr} {H H1 H2:Hp} {h h1 h2 h':Heap} {a x e:Addr} {o:HO}
theorem Un.any (u:Un fs ex H H1 h h1) {b:Addr} {ob:Obj} (q:h.get? b=some ob) (n:H b=none) (hx:b∉ex):∃sl,h1.get? b=some { ob with slots:=sl }:=by
 by_cases hb:b∈fs
 ·exact u.slot b ob q n hb hx
 ·exact ⟨ob.slots,u.keep b ob q n hb hx⟩
theorem Un.kept (k:∀b u,h.get? b=some u->h'.get? b=some u):Un fs ex H H h h':=
 ⟨fun b ob q _ _ _=>k b ob q,fun b ob q _ _ _=>⟨ob.slots,k b ob q⟩,fun _ _ _ n _=>n,fun b ob q _=>⟨ob,k b ob q⟩,fun _ _ q=>q,fun _ _ _ q=>q,fun _ ps q=>⟨#[],by rw [q]; simp⟩⟩
theorem Un.refl:Un fs ex H H h h:=Un.kept fun _ _ q=>q
theorem Un.laid (k:∀b u,h.get? b=some u->h'.get? b=some u) (hp:h.objs.size<=a) (hn:H a=none):Un fs ex H (upd H a o) h h' where
 keep:=fun b u q _ _ _=>k b u q
 slot:=fun b u q _ _ _=>⟨u.slots,k b u q⟩
 free:=fun b u q n _=>by rw [C8 (Zs_ (Zq_ (Zn_ q) hp))]; exact n
 there:=fun b u q _=>⟨u,k b u q⟩
 tups:=fun b xs q=>by rw [C8 (C4 q hn)]; exact q
 frzs:=fun b u xs q=>by rw [C8 (C4 q hn)]; exact q
 tbls:=fun b ps q=>⟨#[],by rw [C8 (C4 q hn),q]; simp⟩
theorem Un.write (mu:Mut (H x)) (he:e=x\/H e=some (.own x)) (k:∀b u,b≠e->h.get? b=some u->h'.get? b=some u) (heo:∃u,h'.get? e=some u):Un fs ex H (upd H x o) h h':=by
 have hx:∀b,H b=none->b≠x:=fun b n z=>by subst z; rw [n] at mu; exact mu
 have hb:∀b,H b=none->b≠e:=fun b n z=>by
  subst z
  rcases he with r | r
  ·exact hx b n r
  ·rw [n] at r; cases r
 have hm:∀b u,H b=some u->¬Mut (some u)->b≠x:=fun b u q nm z=>by subst z; rw [q] at mu; exact nm mu
 refine ⟨fun b u q n _ _=>k b u (hb b n) q,fun b u q n _ _=>⟨u.slots,k b u (hb b n) q⟩,fun b u q n _=>by rw [C8 (hx b n)]; exact n,fun b u q _=>?_,
  fun b xs q=>by rw [C8 (hm b _ q fun z=>z)]; exact q,fun b u xs q=>by rw [C8 (hm b _ q fun z=>z)]; exact q,fun b ps q=>⟨#[],by rw [C8 (hm b _ q fun z=>z),q]; simp⟩⟩
 by_cases hbe:b=e
 ·subst hbe; exact heo
 ·exact ⟨u,k b u hbe q⟩
end
noncomputable def trk (h:Heap) (H:Hp):List Addr:=(List.range h.objs.size).filter fun a=>(H a).isSome
noncomputable def Ji (h:Heap) (H:Hp):Heap:=PySem.W.hideAll h (trk h H)
theorem Sq (h:Heap) (H:Hp):(Ji h H).objs.size=h.objs.size:=PySem.W.hideAll_size _ _
theorem Vr {h:Heap} {H:Hp} {b:Addr} {o:Obj} (e:h.get? b=some o) (n:H b=none):(Ji h H).get? b=some o:=
 PySem.W.hideAll_get _ e fun hm=>by
  have q:(H b).isSome=true:=(List.mem_filter.mp hm).2
  rw [n] at q; simp at q
theorem Aam {h:Heap} {H:Hp} {b:Addr} {o:Obj} (e:(Ji h H).get? b=some o):h.get? b=some o/\H b=none:=by
 have e':h.get? b=some o:=PySem.W.of_hideAll (trk h H) e
 refine ⟨e',?_⟩
 cases q:H b with
 | none=>rfl
 | some x=>
  have hm:b∈trk h H:=List.mem_filter.mpr ⟨List.mem_range.mpr (Heap.lt_size e'),by simp [q]⟩
  have z:(Ji h H).get? b=none:=PySem.W.hideAll_none (trk h H) hm
  rw [z] at e; cases e
structure Mod (K:Θf) (mg:Str->Option Value) (base:Heap):Prop where
 kin:K.In base
 glob:base.Ns mainGlobals mg
 blt:∃mb,base.Ns builtinsNs mb/\∀x:Str,x≠"__name__"->mb x=bootBuiltins x
 nolimit:base.NoLimit
structure Cx where
 prog:Program
 w:World
 K:Θf
 mg:Str->Option Value
 base:Heap
 A:Around
 N:List Str
 s₀:Shared
 H₀:Hp
 env:Env
 outer:List Env
 stack:List Env
 ex:List Addr
 fn:Str->Bool
 calm:Bool
 pn:List (Addr × Obj)
 xe:Value->Shared->Prop
noncomputable def frs (l:List Env):List Addr:=l.filterMap (·.frame)
noncomputable abbrev Cx.fs (X:Cx):List Addr:=frs X.outer
noncomputable def Vis (sc:Scope) (x:Str):Prop:=sc.names.lookup x=some .local\/sc.names.lookup x=some .cell\/sc.names.lookup x=some .free
noncomputable def Loc (sc:Scope) (x:Str):Prop:=sc.names.lookup x=some .local\/sc.names.lookup x=some .cell
noncomputable def Afk (env:Env) (h:Heap) (m:Str->Option Value) (x:Str) (u:Value):Prop:=
 (env.kindOf x=some .local/\m x=some u)\/((env.kindOf x=some .cell\/env.kindOf x=some .free)/\∃c,env.cells.lookup x=some c/\h.IsCell c (some u))
structure Cx.Ok (X:Cx):Prop where
 mod:Mod X.K X.mg X.base
 kind:X.env.scope.kind = .function
 glob:X.env.globals=mainGlobals
 blt:X.env.builtins=builtinsNs
 above:X.s₀.heap.objs.size<=X.env.locals
 inj:∀x y c,X.env.cells.lookup x=some c->X.env.cells.lookup y=some c->x=y
 has:∀x,(X.env.kindOf x=some .cell\/X.env.kindOf x=some .free)->∃c,X.env.cells.lookup x=some c
 cab:∀x c,X.fn x=true->X.env.cells.lookup x=some c->X.s₀.heap.objs.size<=c
 hd:X.calm=true->X.A.handled=none
 frames:X.A.frames=some X.stack
 stk:X.stack=X.outer\/(X.stack=X.env :: X.outer/\X.env.frame=some X.env.locals)
 exf:∀b∈X.ex,b≠X.env.locals/\∀x c,X.env.cells.lookup x=some c->c≠b
 bs:∀b o,X.base.get? b=some o->X.s₀.heap.get? b=some o/\X.H₀ b=none
 bsz:X.base.objs.size<=X.s₀.heap.objs.size
 noex:∀b o,X.base.get? b=some o->b∉X.ex
 exfs:∀b∈X.ex,b∉X.fs
 funs:X.s₀.heap.FunFrames X.base X.outer
 frf:∀b∈X.fs,X.H₀ b=none
structure Inv (X:Cx) (pins:List (Addr × Obj)) (σ:List (Option V)) (H:Hp) (s:Shared):Prop where
 ok:X.Ok
 os:s.os=X.s₀.os
 bare:AllBare s.gens
 base:Un X.fs X.ex X.H₀ H X.s₀.heap s.heap
 loc:∃m,s.heap.Ns X.env.locals m/\∀(i:Nat) (x:Str) (v:V),X.N[i]? = some x->σ[i]? = some (some v)->Vis X.env.scope x->∃u,RelV v u/\Afk X.env s.heap m x u
 cell:∀x c,X.env.cells.lookup x=some c->∃v,s.heap.IsCell c v
 free:H X.env.locals=none
 freeC:∀x c,X.env.cells.lookup x=some c->H c=none
 pin:∀p∈X.pn++pins,s.heap.get? p.1=some p.2/\H p.1=none/\p.1≠X.env.locals/\p.1∉X.fs/\∀v,p.2.data≠.cell v
 hok:HOk X.prog X.w H s.heap
 len:σ.length=X.N.length
section
variable {X:Cx} {pins:List (Addr × Obj)} {σ:List (Option V)} {H H':Hp} {s:Shared} {h':Heap}
theorem Cx.Ok.nofr (ok:X.Ok) {b:Addr} {o:Obj} (e:X.base.get? b=some o):b∉X.fs:=fun hb=>by
 have:=(ok.funs.mem hb).1
 rw [e] at this; cases this
theorem Inv.bs (I:Inv X pins σ H s):∀b o,X.base.get? b=some o->s.heap.get? b=some o/\H b=none:=fun b o e=>
 ⟨I.base.keep b o (I.ok.bs b o e).1 (I.ok.bs b o e).2 (I.ok.nofr e) (I.ok.noex b o e),I.base.free b o (I.ok.bs b o e).1 (I.ok.bs b o e).2 (I.ok.noex b o e)⟩
theorem Inv.bk (I:Inv X pins σ H s):∀b o,X.base.get? b=some o->s.heap.get? b=some o:=fun b o e=>(I.bs b o e).1
theorem Inv.mod (I:Inv X pins σ H s):Mod X.K X.mg X.base:=I.ok.mod
theorem Inv.kIn (I:Inv X pins σ H s):X.K.In s.heap:=I.ok.mod.kin.keeps I.bk
theorem Inv.lt (I:Inv X pins σ H s):X.env.locals < s.heap.objs.size:=let ⟨_,hn,_⟩:=I.loc; hn.lt
theorem Inv.sz (I:Inv X pins σ H s):X.s₀.heap.objs.size<=s.heap.objs.size:=Zo_ I.ok.above (Nat.le_of_lt I.lt)
theorem Inv.nofs (I:Inv X pins σ H s) {a:Addr} (h:s.heap.objs.size<=a):a∉X.fs:=fun hb=>by
 obtain ⟨_,o,ho,_⟩:=I.ok.funs.mem hb
 exact absurd (Zq_ (Zn_ ho) (Zo_ I.sz h)) (Nat.lt_irrefl _)
theorem Inv.cne (I:Inv X pins σ H s):∀x c,X.env.cells.lookup x=some c->c≠X.env.locals:=fun x c e z=>by
 obtain ⟨v,o,ho,hd⟩:=I.cell x c e
 obtain ⟨m,⟨o',es,ep,ho',hd',_⟩,_⟩:=I.loc
 rw [z,ho'] at ho; cases ho; rw [hd'] at hd; cases hd
theorem Inv.funs (I:Inv X pins σ H s):s.heap.FunFrames X.base X.outer:=by
 have all:∀(l:List Env),(∀b∈frs l,b∈X.fs)->X.s₀.heap.FunFrames X.base l->s.heap.FunFrames X.base l:=by
  intro l
  induction l with
  | nil=>intro _ _; trivial
  | cons env r ih=>
   intro hs hl
   obtain ⟨hk,⟨L,o,hf,hn,ho,hd⟩,hr⟩:=hl
   have hL:L∈X.fs:=hs L (by unfold frs; rw [List.filterMap_cons,hf]; exact Θc)
   obtain ⟨sl,e⟩:=I.base.slot L o ho (I.ok.frf L hL) hL fun z=>I.ok.exfs L z hL
   exact ⟨hk,⟨L,_,hf,hn,e,hd⟩,ih (fun b hb=>hs b (by unfold frs; rw [List.filterMap_cons,hf]; exact Θd _ hb)) hr⟩
 exact all X.outer (fun _ hb=>hb) I.ok.funs
theorem Inv.stack (I:Inv X pins σ H s):s.heap.FunFrames X.base X.stack:=by
 rcases I.ok.stk with e | ⟨e,hf⟩
 ·rw [e]; exact I.funs
 ·rw [e]
  obtain ⟨m,hn,_⟩:=I.loc
  refine .cons (by rw [I.ok.kind]; decide) hf hn ?_ I.funs
  exact Heap.get?_none_of_le (Zo_ I.ok.bsz I.ok.above)
theorem Inv.stkSub (I:Inv X pins σ H s):∀b∈frs X.stack,b∈X.env.locals :: X.fs:=fun b hb=>by
 rcases I.ok.stk with e | ⟨e,hf⟩
 ·rw [e] at hb; exact Θd _ hb
 ·rw [e] at hb
  unfold frs at hb
  rw [List.filterMap_cons,hf] at hb
  exact hb
theorem Inv.stkFree (I:Inv X pins σ H s):∀b∈frs X.stack,H b=none:=fun b hb=>by
 rcases Zg_.mp (I.stkSub b hb) with e | hb
 ·rw [e]; exact I.free
 ·obtain ⟨_,o,ho,_⟩:=I.ok.funs.mem hb
  exact I.base.free b o ho (I.ok.frf b hb) fun z=>I.ok.exfs b z hb
theorem Inv.step {g':Array GenState} {t':Nat} {d':Drawn} {ch:List Addr} (I:Inv X pins σ H s)
  (hch:∀b∈ch,(b∈X.ex\/X.s₀.heap.objs.size<=b)/\b≠X.env.locals/\(∀x c,X.env.cells.lookup x=some c->c≠b)/\∀p∈X.pn++pins,p.1≠b)
  (keep:∀b o,b≠X.env.locals->b∉X.fs->b∉ch->s.heap.get? b=some o->H b=none->h'.get? b=some o)
  (slot:∀b o,b≠X.env.locals->b∈X.fs->b∉ch->s.heap.get? b=some o->H b=none->∃sl,h'.get? b=some { o with slots:=sl }) (free:∀b o,b∉ch->s.heap.get? b=some o->H b=none->H' b=none)
  (there:∀b o,b∉ch->s.heap.get? b=some o->∃o',h'.get? b=some o')
  (tups:∀b xs,H b=some (.tup xs)->H' b=some (.tup xs)) (frzs:∀b o u,H b=some (.frz o u)->H' b=some (.frz o u)) (tbls:∀b ps,H b=some (.tbl ps)->∃more,H' b=some (.tbl (ps++more)))
  (ns:∀m,s.heap.Ns X.env.locals m->h'.Ns X.env.locals m) (hok:HOk X.prog X.w H' h') (hg:AllBare g') :
  Inv X pins σ H' { s with heap:=h',gens:=g',drawn:=d',toks:=t' }:=by
 have neL:∀b o,X.s₀.heap.get? b=some o->b≠X.env.locals:=fun b o e=>Zs_ (Zq_ (Zn_ e) I.ok.above)
 have neC:∀b o,X.s₀.heap.get? b=some o->b∉X.ex->b∉ch:=fun b o e hx hb=>by
  rcases (hch b hb).1 with z | z
  ·exact hx z
  ·exact absurd (Zq_ (Zn_ e) z) (Nat.lt_irrefl _)
 have cellK:∀x c,X.env.cells.lookup x=some c->∀v,s.heap.IsCell c v->h'.IsCell c v:=fun x c e v ⟨o,ho,hd⟩=>by
  have nch:c∉ch:=fun z=>(hch c z).2.2.1 x c e rfl
  by_cases hc:c∈X.fs
  ·obtain ⟨sl,q⟩:=slot c o (I.cne x c e) hc nch ho (I.freeC x c e)
   exact ⟨_,q,hd⟩
  ·exact ⟨o,keep c o (I.cne x c e) hc nch ho (I.freeC x c e),hd⟩
 refine ⟨I.ok,I.os,hg,⟨fun b o e n hb hx=>?_,fun b o e n hb hx=>?_,fun b o e n hx=>?_,fun b o e hx=>?_,fun b xs e=>tups b xs (I.base.tups b xs e),fun b o xs e=>frzs b o xs (I.base.frzs b o xs e),fun b ps e=>?_⟩,?_,fun x c e=>?_,?_,fun x c e=>?_,fun p hp=>?_,hok,I.len⟩
 ·exact keep b o (neL b o e) hb (neC b o e hx) (I.base.keep b o e n hb hx) (I.base.free b o e n hx)
 ·obtain ⟨sl,e1⟩:=I.base.slot b o e n hb hx
  obtain ⟨sl',e2⟩:=slot b _ (neL b o e) hb (neC b o e hx) e1 (I.base.free b o e n hx)
  exact ⟨sl',e2⟩
 ·obtain ⟨o',e1⟩:=I.base.there b o e hx
  exact free b o' (neC b o e hx) e1 (I.base.free b o e n hx)
 ·obtain ⟨o',e1⟩:=I.base.there b o e hx
  exact there b o' (neC b o e hx) e1
 ·obtain ⟨m1,e1⟩:=I.base.tbls b ps e
  obtain ⟨m2,e2⟩:=tbls b _ e1
  exact ⟨m1++m2,by rw [e2,Array.append_assoc]⟩
 ·obtain ⟨m,hn,hl⟩:=I.loc
  refine ⟨m,ns m hn,fun i x v e1 e2 e3=>?_⟩
  obtain ⟨u,r,l⟩:=hl i x v e1 e2 e3
  refine ⟨u,r,?_⟩
  rcases l with l | ⟨k,c,e,z⟩
  ·exact .inl l
  ·exact .inr ⟨k,c,e,cellK x c e _ z⟩
 ·obtain ⟨v,z⟩:=I.cell x c e
  exact ⟨v,cellK x c e v z⟩
 ·obtain ⟨m,⟨o,_,_,ho,_⟩,_⟩:=I.loc
  exact free _ o (fun z=>(hch _ z).2.1 rfl) ho I.free
 ·obtain ⟨v,o,ho,hd⟩:=I.cell x c e
  exact free c o (fun z=>(hch c z).2.2.1 x c e rfl) ho (I.freeC x c e)
 ·obtain ⟨e,n,ne,nf,d⟩:=I.pin p hp
  have nch:p.1∉ch:=fun z=>(hch p.1 z).2.2.2 p hp rfl
  exact ⟨keep p.1 p.2 ne nf nch e n,free p.1 p.2 nch e n,ne,nf,d⟩
theorem Inv.un {t':Nat} (I:Inv X pins σ H s) (u:Un X.fs [] H H' s.heap h') (hok:HOk X.prog X.w H' h'):Inv X pins σ H' { s with heap:=h',toks:=t' }:=by
 obtain ⟨m,⟨o,es,ep,ho,r⟩,_⟩:=id I.loc
 obtain ⟨sl,hL⟩:=u.any ho I.free (by simp)
 exact I.step (g':=s.gens) (d':=s.drawn) (ch:=[]) (fun _ z=>nomatch z) (fun b o _ hb _ e n=>u.keep b o e n hb (by simp)) (fun b o _ hb _ e n=>u.slot b o e n hb (by simp)) (fun b o _ e n=>u.free b o e n (by simp)) (fun b o _ e=>u.there b o e (by simp)) u.tups u.frzs u.tbls (fun m' hm=>by
  obtain ⟨o',es',ep',ho',r'⟩:=hm
  rw [ho] at ho'; cases ho'
  exact ⟨_,es',ep',hL,r'⟩) hok I.bare
theorem Inv.call {g':Array GenState} {t':Nat} {d':Drawn} {ch:List Addr} (I:Inv X pins σ H s) (u:Un (frs X.stack) ch H H' s.heap h') (hok:HOk X.prog X.w H' h') (hg:AllBare g')
  (hch:∀b∈ch,(b∈X.ex\/X.s₀.heap.objs.size<=b)/\b≠X.env.locals/\(∀x c,X.env.cells.lookup x=some c->c≠b)/\∀p∈X.pn++pins,p.1≠b) :
  Inv X pins σ H' { s with heap:=h',gens:=g',drawn:=d',toks:=t' }:=by
 obtain ⟨m,⟨o,es,ep,ho,r⟩,_⟩:=id I.loc
 obtain ⟨sl,hL⟩:=u.any ho I.free fun z=>(hch _ z).2.1 rfl
 exact I.step (ch:=ch) hch (fun b o hL hb hc e n=>u.keep b o e n (fun z=>(Zg_.mp (I.stkSub b z)).elim hL hb) hc) (fun b o _ _ hc e n=>u.any e n hc) (fun b o hc e n=>u.free b o e n hc) (fun b o hc e=>u.there b o e hc) u.tups u.frzs u.tbls (fun m' hm=>by
  obtain ⟨o',es',ep',ho',r'⟩:=hm
  rw [ho] at ho'; cases ho'
  exact ⟨_,es',ep',hL,r'⟩) hok hg
theorem Inv.turned {t':Nat} {it:Addr} (I:Inv X pins σ H s) (k:∀b o,b≠it->s.heap.get? b=some o->h'.get? b=some o) (hn:H it=none) (hL:it≠X.env.locals)
  (h1:it∈X.ex\/X.s₀.heap.objs.size<=it) (h2:∀x c,X.env.cells.lookup x=some c->c≠it) (h3:∀p∈X.pn++pins,p.1≠it):Inv X pins σ H { s with heap:=h',toks:=t' }:=by
 have nit:∀b u,H b=some u->b≠it:=fun b u e z=>by rw [z,hn] at e; cases e
 refine I.step (g':=s.gens) (d':=s.drawn) (ch:=[it]) (fun b hb=>?_) (fun b o _ _ hc e _=>k b o (fun z=>hc (by simp [z])) e) (fun b o _ _ hc e _=>⟨o.slots,k b o (fun z=>hc (by simp [z])) e⟩) (fun _ _ _ _ n=>n)
  (fun b o hc e=>⟨o,k b o (fun z=>hc (by simp [z])) e⟩) (fun _ _ e=>e) (fun _ _ _ e=>e) (fun b ps e=>⟨#[],by rw [e]; simp⟩) (fun m hm=>?_) (fun b u e=>?_) I.bare
 ·have e:b=it:=by simpa using hb
  subst e
  exact ⟨h1,hL,h2,h3⟩
 ·obtain ⟨o,es,ep,ho,r⟩:=hm
  exact ⟨o,es,ep,k _ o (Ne.symm hL) ho,r⟩
 ·refine (I.hok b u e).stay (fun c v hc q=>k c v ?_ q) (fun _ q=>q) fun _ _ q=>q
  rcases hc with z | z
  ·rw [z]; exact nit b u e
  ·exact nit c _ z
theorem Inv.tok (I:Inv X pins σ H s) (t:Nat):Inv X pins σ H { s with toks:=t }:=I.un (h':=s.heap) (t':=t) Un.refl I.hok
theorem Inv.kept {t':Nat} (I:Inv X pins σ H s) (k:∀b u,s.heap.get? b=some u->h'.get? b=some u):Inv X pins σ H { s with heap:=h',toks:=t' }:=I.un (Un.kept k) (I.hok.kept k)
theorem Inv.laid {a:Addr} {o:HO} {t':Nat} (I:Inv X pins σ H s) (k:∀b u,s.heap.get? b=some u->h'.get? b=some u) (hp:s.heap.objs.size<=a) (new:ObjOk X.prog X.w (upd H a o) h' a o) :
  Inv X pins σ (upd H a o) { s with heap:=h',toks:=t' }:=I.un (Un.laid k hp (I.hok.fresh hp)) (I.hok.laid k hp new)
theorem Inv.write {x e:Addr} {o:HO} {t':Nat} (I:Inv X pins σ H s) (mu:Mut (H x)) (he:e=x\/H e=some (.own x)) (k:∀b u,b≠e->s.heap.get? b=some u->h'.get? b=some u) (heo:∃u,h'.get? e=some u)
  (new:ObjOk X.prog X.w (upd H x o) h' x o):Inv X pins σ (upd H x o) { s with heap:=h',toks:=t' }:=I.un (Un.write mu he k heo) (I.hok.write mu he k heo new)
theorem Inv.weak {σ':List (Option V)} (I:Inv X pins σ H s) (hl:σ'.length=σ.length) (w:∀(i:Nat) v,σ'[i]? = some (some v)->σ[i]? = some (some v)):Inv X pins σ' H s:=
 ⟨I.ok,I.os,I.bare,I.base,let ⟨m,hn,hl'⟩:=I.loc; ⟨m,hn,fun i x v e1 e2 e3=>hl' i x v e1 (w i v e2) e3⟩,I.cell,I.free,I.freeC,I.pin,I.hok,hl.trans I.len⟩
theorem Inv.pins_of {pins':List (Addr × Obj)} (I:Inv X pins σ H s) (h:∀p∈pins',s.heap.get? p.1=some p.2/\H p.1=none/\p.1≠X.env.locals/\p.1∉X.fs/\∀v,p.2.data≠.cell v):Inv X pins' σ H s:=
 ⟨I.ok,I.os,I.bare,I.base,I.loc,I.cell,I.free,I.freeC,fun p hp=>(Θa hp).elim (fun z=>I.pin p (Zt_ _ z)) (h p),I.hok,I.len⟩
theorem Fb {N:List Str} (hN:N.Nodup) {i j:Nat} {x:Str} (a:N[i]? = some x) (b:N[j]? = some x):i=j:=by
 obtain ⟨h1,e1⟩:=Ze_.mp a
 obtain ⟨h2,e2⟩:=Ze_.mp b
 exact (List.getElem_inj hN).mp (e1.trans e2.symm)
theorem Cs {M:Model} {A:Around} {E:Value->Shared->Prop} {i:Nat} {x:Str} {v:V} {u:Value} {Q:Unit->Shared->Prop} (I:Inv X pins σ H s) (hN:X.N.Nodup) (hi:X.N[i]? = some x) (hx:Loc X.env.scope x) (r:RelV v u)
  (h:∀s',Inv X pins (σ.set i (some v)) H s'->(∃a,Heap.SameBut a s.heap s'.heap/\(a=X.env.locals\/X.env.cells.lookup x=some a))->Q () s') (hf:X.fn x=true\/X.env.scope.names.lookup x=some .local:=by first | exact .inl rfl | exact .inr rfl | assumption):wpAny M A (storeName X.env x u) Q E s:=by
 obtain ⟨m,hn,hl⟩:=id I.loc
 have hcls:(X.env.scope.kind == .class || (X.env.scope.kind == .module && X.env.locals != X.env.globals))=false:=by rw [I.ok.kind]; rfl
 have hiσ:i < σ.length:=by rw [I.len]; exact (Ze_.mp hi).1
 have cne:=I.cne
 have tracked:∀{a:Addr} {h':Heap},(∃o,s.heap.get? a=some o/\H a=none)->Heap.SameBut a s.heap h'->HOk X.prog X.w H h':=fun {a h'} ha hs b ob e=>by
  obtain ⟨_,_,hfree⟩:=ha
  refine (I.hok b ob e).stay (fun c w' hc q=>(hs.2 c ?_).trans q) (fun _ q=>q) fun _ _ q=>q
  rintro rfl
  rcases hc with rfl | hc
  ·rw [hfree] at e; cases e
  ·rw [hfree] at hc; cases hc
 rcases hx with hk | hk
 ·refine wpAny_storeName_local hk hn (fun h' hn' hs=>?_) hcls
  obtain ⟨oL,_,_,hoL,_⟩:=id hn
  refine h _ ⟨I.ok,I.os,I.bare,⟨fun b o e n hb hx=>?_,fun b o e n hb hx=>?_,I.base.free,fun b o e hx=>?_,I.base.tups,I.base.frzs,I.base.tbls⟩,⟨_,hn',fun j y v' e1 e2 e3=>?_⟩,fun y c e=>?_,I.free,I.freeC,fun p hp=>?_,tracked ⟨oL,hoL,I.free⟩ hs,by simpa using I.len⟩ ⟨_,hs,.inl rfl⟩
  ·exact (hs.2 b (Zs_ (Zq_ (Zn_ e) I.ok.above))).trans (I.base.keep b o e n hb hx)
  ·obtain ⟨sl,e1⟩:=I.base.slot b o e n hb hx
   exact ⟨sl,(hs.2 b (Zs_ (Zq_ (Zn_ e) I.ok.above))).trans e1⟩
  ·obtain ⟨o',e1⟩:=I.base.there b o e hx
   exact ⟨o',(hs.2 b (Zs_ (Zq_ (Zn_ e) I.ok.above))).trans e1⟩
  ·by_cases hj:j=i
   ·subst hj
    rw [hi] at e1; cases e1
    rw [List.getElem?_set_self hiσ] at e2
    cases e2
    exact ⟨u,r,.inl ⟨hk,by simp⟩⟩
   ·rw [List.getElem?_set_ne (Ne.symm hj)] at e2
    obtain ⟨u',r',q⟩:=hl j y v' e1 e2 e3
    refine ⟨u',r',?_⟩
    rcases q with ⟨k,e⟩ | ⟨k,c,e,z⟩
    ·refine .inl ⟨k,?_⟩
     have:y≠x:=fun e=>hj (Fb hN e1 (e ▸ hi))
     simp [this,e]
    ·exact .inr ⟨k,c,e,z.sameBut hs (cne y c e)⟩
  ·obtain ⟨w',z⟩:=I.cell y c e
   exact ⟨w',z.sameBut hs (cne y c e)⟩
  ·obtain ⟨e,n,ne,nf,d⟩:=I.pin p hp
   exact ⟨(hs.2 p.1 ne).trans e,n,ne,nf,d⟩
 ·have hfn:X.fn x=true:=by
   rcases hf with z | z
   ·exact z
   ·rw [z] at hk; cases hk
  obtain ⟨c,hc⟩:=I.ok.has x (.inl hk)
  obtain ⟨w',z⟩:=I.cell x c hc
  refine wpAny_storeName_cell I.ok.kind hk hc z (fun h' hc' hs=>?_)
  obtain ⟨oc,hoc,hocd⟩:=id z
  refine h { s with heap:=h' } ⟨I.ok,I.os,I.bare,⟨fun b o e n hb hx=>?_,fun b o e n hb hx=>?_,I.base.free,fun b o e hx=>?_,I.base.tups,I.base.frzs,I.base.tbls⟩,⟨m,hn.sameBut hs (Ne.symm (cne x c hc)),fun j y v' e1 e2 e3=>?_⟩,fun y c' e=>?_,I.free,I.freeC,fun p hp=>?_,tracked ⟨oc,hoc,I.freeC x c hc⟩ hs,by simpa using I.len⟩ ⟨c,hs,.inr hc⟩
  ·exact (hs.2 b (Zs_ (Zq_ (Zn_ e) (I.ok.cab x c hfn hc)))).trans (I.base.keep b o e n hb hx)
  ·obtain ⟨sl,e1⟩:=I.base.slot b o e n hb hx
   exact ⟨sl,(hs.2 b (Zs_ (Zq_ (Zn_ e) (I.ok.cab x c hfn hc)))).trans e1⟩
  ·obtain ⟨o',e1⟩:=I.base.there b o e hx
   exact ⟨o',(hs.2 b (Zs_ (Zq_ (Zn_ e) (I.ok.cab x c hfn hc)))).trans e1⟩
  ·by_cases hj:j=i
   ·subst hj
    rw [hi] at e1; cases e1
    rw [List.getElem?_set_self hiσ] at e2
    cases e2
    exact ⟨u,r,.inr ⟨.inl hk,c,hc,hc'⟩⟩
   ·rw [List.getElem?_set_ne (Ne.symm hj)] at e2
    obtain ⟨u',r',q⟩:=hl j y v' e1 e2 e3
    refine ⟨u',r',?_⟩
    rcases q with q | ⟨k,c',e,z'⟩
    ·exact .inl q
    ·refine .inr ⟨k,c',e,z'.sameBut hs ?_⟩
     rintro rfl
     exact hj (Fb hN e1 (I.ok.inj _ _ _ e hc ▸ hi))
  ·by_cases hcc:c' = c
   ·subst hcc; exact ⟨_,hc'⟩
   ·obtain ⟨w2,z2⟩:=I.cell y c' e
    exact ⟨w2,z2.sameBut hs hcc⟩
  ·obtain ⟨e,n,ne,nf,d⟩:=I.pin p hp
   refine ⟨(hs.2 p.1 ?_).trans e,n,ne,nf,d⟩
   intro q
   rw [q,hoc] at e
   have q':oc=p.2:=Θo e
   exact d w' (by rw [<-q']; exact hocd)
theorem X3 {M:Model} {A:Around} {E:Value->Shared->Prop} {i:Nat} {x:Str} {v:V} {u:Value} {Q:Unit->Shared->Prop} (I:Inv X pins σ H s) (hN:X.N.Nodup) (hi:X.N[i]? = some x) (hx:Loc X.env.scope x) (r:RelV v u)
  (h:∀s',Inv X pins (σ.set i (some v)) H s'->Q () s') (hf:X.fn x=true\/X.env.scope.names.lookup x=some .local:=by first | exact .inl rfl | exact .inr rfl | assumption):wpAny M A (storeName X.env x u) Q E s:=
 Cs I hN hi hx r (fun s' I' _=>h s' I') hf
theorem Inv.call' {s':Shared} {ch:List Addr} (I:Inv X pins σ H s) (ho:s'.os=s.os) (u:Un (frs X.stack) ch H H' s.heap s'.heap) (hok:HOk X.prog X.w H' s'.heap) (hg:AllBare s'.gens)
  (hch:∀b∈ch,(b∈X.ex\/X.s₀.heap.objs.size<=b)/\b≠X.env.locals/\(∀x c,X.env.cells.lookup x=some c->c≠b)/\∀p∈X.pn++pins,p.1≠b):Inv X pins σ H' s':=by
 obtain ⟨h',g',d',t',o'⟩:=s'
 have e:o' = s.os:=ho
 subst e
 exact I.call (g':=g') (t':=t') (d':=d') u hok hg hch
end
noncomputable abbrev XK:=Value->Option Addr->Hp->Prop
noncomputable abbrev St:=List (Option V)
noncomputable abbrev VK:=V->Hp->Prop
noncomputable abbrev TE:=St->Hp->VK->Prop
noncomputable abbrev TT:=St->Hp->(Bool->Hp->Prop)->Prop
noncomputable abbrev TA:=St->Hp->(List V->Hp->Prop)->Prop
structure Ends where
 nx:St->Hp->Prop
 rt:VK
 bk:St->Hp->Prop:=fun _ _=>False
 ct:St->Hp->Prop:=fun _ _=>False
noncomputable abbrev TS:=Ends->St->Hp->Prop
noncomputable def EP (X:Cx) (pins:List (Addr × Obj)) (σ:St) (Q:VK) (u:Value) (s':Shared):Prop:=∃v H',Inv X pins σ H' s'/\RelV v u/\Q v H'
noncomputable def TP (X:Cx) (pins:List (Addr × Obj)) (σ:St) (Q:Bool->Hp->Prop) (b:Bool) (s':Shared):Prop:=∃H',Inv X pins σ H' s'/\Q b H'
noncomputable def AP (X:Cx) (pins:List (Addr × Obj)) (σ:St) (Q:List V->Hp->Prop) (us:List Value) (s':Shared):Prop:=∃vs H',Inv X pins σ H' s'/\Vals vs us/\Q vs H'
noncomputable def SP (X:Cx) (pins:List (Addr × Obj)) (D:Ends) (f:Flow) (s':Shared):Prop:=
 match f with
 | .next=>∃σ' H',Inv X pins σ' H' s'/\D.nx σ' H'
 | .brk=>∃σ' H',Inv X pins σ' H' s'/\D.bk σ' H'
 | .cont=>∃σ' H',Inv X pins σ' H' s'/\D.ct σ' H'
 | .ret u=>∃v σ' H',Inv X pins σ' H' s'/\RelV v u/\D.rt v H'
noncomputable def PE (X:Cx) (e:Expr) (t:TE):Prop:=
 ∀(pins:List (Addr × Obj)) (s:Shared) (σ:St) (H:Hp) (Q:VK),Inv X pins σ H s->t σ H Q->wpAny (model X.prog X.w) X.A (eval e X.env) (EP X pins σ Q) X.xe s
noncomputable def PT (X:Cx) (e:Expr) (t:TT):Prop:=
 ∀(pins:List (Addr × Obj)) (s:Shared) (σ:St) (H:Hp) (Q:Bool->Hp->Prop),Inv X pins σ H s->t σ H Q->wpAny (model X.prog X.w) X.A (isTrue e X.env (eval e X.env)) (TP X pins σ Q) X.xe s
noncomputable def PW (X:Cx) (e:Expr) (t:TT):Prop:=
 ∀(whole:Sem Value) (pins:List (Addr × Obj)) (s:Shared) (σ:St) (H:Hp) (Q:Bool->Hp->Prop),Inv X pins σ H s->t σ H Q->wpAny (model X.prog X.w) X.A (isTrue e X.env whole) (TP X pins σ Q) X.xe s
theorem PW.pt {X:Cx} {e:Expr} {t:TT} (h:PW X e t):PT X e t:=h _
noncomputable def PA (X:Cx) (es:List Expr) (t:TA):Prop:=
 ∀(pos:Pos) (pins:List (Addr × Obj)) (s:Shared) (σ:St) (H:Hp) (Q:List V->Hp->Prop),Inv X pins σ H s->t σ H Q->wpAny (model X.prog X.w) X.A (spliced (backTo pos (starEach es X.env))) (AP X pins σ Q) X.xe s
noncomputable def PS (X:Cx) (st:Stmt) (t:TS):Prop:=
 ∀(pins:List (Addr × Obj)) (s:Shared) (σ:St) (H:Hp) (D:Ends),Inv X pins σ H s->t D σ H->wpAny (model X.prog X.w) X.A (exec st X.env) (SP X pins D) X.xe s
noncomputable def PSs (X:Cx) (st:List Stmt) (t:TS):Prop:=
 ∀(pins:List (Addr × Obj)) (s:Shared) (σ:St) (H:Hp) (D:Ends),Inv X pins σ H s->t D σ H->wpAny (model X.prog X.w) X.A (execs st X.env) (SP X pins D) X.xe s
theorem thn {α:Type} {t:Sem α} {Q Q':α->Shared->Prop} {M:Model} {A:Around} {E:Value->Shared->Prop} {s:Shared} (h:wpAny M A t Q E s) (hQ:∀a s,Q a s->Q' a s):wpAny M A t Q' E s:=wpAny_mono h hQ fun _ _ x=>x
section
variable {X:Cx}
noncomputable def Aff (i:Nat):TE:=fun σ H Q=>∃v,σ[i]? = some (some v)/\Q v H
noncomputable def tC (v:V):TE:=fun _ H Q=>Q v H
theorem Adh {i:Nat} {x:Str} {pos:Pos} (hN:X.N[i]? = some x) (hv:Vis X.env.scope x) (hd:(x == ("__debug__":Str))=false:=by decide) (hcd:(x == ("__classdict__":Str))=false:=by decide):PE X (.Name x pos) (Aff i):=by
 intro pins s σ H Q I h
 obtain ⟨v,e,h⟩:=h
 obtain ⟨m,hn,hl⟩:=I.loc
 obtain ⟨u,r,l⟩:=hl i x v hN e hv
 have fin:EP X pins σ Q u s:=⟨v,H,I,r,h⟩
 rcases l with ⟨hk,hm⟩ | ⟨hk,c,hc,hcell⟩
 ·exact wpAny_Name (wpAny_loadName_local I.ok.kind hk hn hm fin) hd
 ·rcases hk with hk | hk
  ·exact wpAny_Name (wpAny_loadName_cell I.ok.kind hk hc hcell fin) hd
  ·exact wpAny_Name (wpAny_loadName_free I.ok.kind hk hc hcell fin hcd) hd
theorem A9 {i j pos}:PE X (.Constant (.int i) j pos) (tC (.int i)):=fun _ _ _ H _ I h=>wpAny_Constant_int ⟨.int i,H,I.tok _,⟨_,rfl⟩,h⟩
theorem W4 {b j pos}:PE X (.Constant (.bool b) j pos) (tC (.bl b)):=fun _ _ _ H _ I h=>Constant_bool ⟨.bl b,H,I,rfl,h⟩
theorem K5 {j pos}:PE X (.Constant .none j pos) (tC .non):=fun _ _ _ H _ I h=>Constant_none ⟨.non,H,I,rfl,h⟩
theorem B7 {x j pos}:PE X (.Constant (.str x) j pos) (tC (.str x)):=fun _ _ _ H _ I h=>Calls.Constant_str ⟨.str x,H,I.tok _,⟨_,rfl⟩,h⟩
noncomputable def Gl (X:Cx) (x:Str):Prop:=X.env.kindOf x=some .globalImplicit
theorem R9 {E:Value->Shared->Prop} {pins:List (Addr × Obj)} {s:Shared} {σ:St} {H:Hp} {x:Str} {u:Value} {pos:Pos} {Q:Value->Shared->Prop} (I:Inv X pins σ H s) (hg:Gl X x) (hm:X.mg x=some u) (h:Q u s)
  (hd:(x == ("__debug__":Str))=false:=by decide):wpAny (model X.prog X.w) X.A (eval (.Name x pos) X.env) Q E s:=
 Calls.Name_function_global I.ok.kind hg (Calls.loadGlobal_global (by rw [I.ok.glob]; exact I.mod.glob.keeps I.bk) hm h) hd
theorem Z7 {E:Value->Shared->Prop} {pins:List (Addr × Obj)} {s:Shared} {σ:St} {H:Hp} {x:Str} {u:Value} {pos:Pos} {Q:Value->Shared->Prop} (I:Inv X pins σ H s) (hg:Gl X x) (hm:X.mg x=none) (hv:bootBuiltins x=some u) (h:Q u s)
  (hn:x≠"__name__":=by decide) (hd:(x == ("__debug__":Str))=false:=by decide):wpAny (model X.prog X.w) X.A (eval (.Name x pos) X.env) Q E s:=by
 obtain ⟨mb,h1,h2⟩:=I.mod.blt
 exact Calls.Name_function_global I.ok.kind hg (Calls.loadGlobal_builtin (by rw [I.ok.glob]; exact I.mod.glob.keeps I.bk) hm (by rw [I.ok.blt]; exact h1.keeps I.bk) ((h2 x hn).trans hv) h) hd
theorem L3 {x:Str} {v:V} {u:Value} {pos:Pos} (hg:Gl X x) (hm:X.mg x=some u) (r:RelV v u) (hd:(x == ("__debug__":Str))=false:=by decide):PE X (.Name x pos) (tC v):=
 fun _ _ _ H _ I h=>R9 I hg hm ⟨v,H,I,r,h⟩ hd
theorem Dx {x:Str} {v:V} {u:Value} {pos:Pos} (hg:Gl X x) (hm:X.mg x=none) (hv:bootBuiltins x=some u) (r:RelV v u) (hn:x≠"__name__":=by decide) (hd:(x == ("__debug__":Str))=false:=by decide):PE X (.Name x pos) (tC v):=
 fun _ _ _ H _ I h=>Z7 I hg hm hv ⟨v,H,I,r,h⟩ hn hd
variable {a b:Expr} {ta tb:TE} {pos:Pos}
noncomputable def tB (t:TE):TT:=fun σ H Q=>t σ H fun x H1=>∃c,x = .bl c/\Q c H1
theorem O2 {e:Expr} {t:TE} (h:PE X e t) (he:∀whole,isTrue e X.env whole=(do let v <-whole; standAt e.pos; holding [v] (truthy v)):=by intro _; rfl):PT X e (tB t):=by
 intro pins s σ H Q I hw
 refine isTrue_plain (thn (h pins s σ H _ I hw) fun v s1 ⟨x,H1,I1,r1,q1⟩=>?_) (he _)
 obtain ⟨d,rfl,q⟩:=q1
 cases r1
 exact wpAny_truthy_bool ⟨H1,I1,q⟩
variable {tA tB':TT} {rest:List Expr}
noncomputable def Af3 (t u:TT):TT:=fun σ H Q=>t σ H fun c H1=>if c=true then u σ H1 Q else Q false H1
noncomputable def tOr (t u:TT):TT:=fun σ H Q=>t σ H fun c H1=>if c=true then Q true H1 else u σ H1 Q
noncomputable def Aga (t:TT):TT:=fun σ H Q=>t σ H fun c H1=>Q (!c) H1
theorem Qw (ha:PT X a tA):PW X (.BoolOp .And [a] pos) tA:=by
 intro wh pins s σ H Q I h
 refine isTrue_and (thn (ha pins s σ H Q I h) fun c s1 e=>?_)
 cases c with
 | true=>exact isTrue_and_nil e
 | false=>exact e
theorem Cl (ha:PT X a tA):PW X (.BoolOp .Or [a] pos) tA:=by
 intro wh pins s σ H Q I h
 refine isTrue_or (thn (ha pins s σ H Q I h) fun c s1 e=>?_)
 cases c with
 | false=>exact isTrue_or_nil e
 | true=>exact e
theorem Xu (ha:PT X a tA) (hb:PW X (.BoolOp .And (b :: rest) pos) tB'):PW X (.BoolOp .And (a :: b :: rest) pos) (Af3 tA tB'):=by
 intro wh pins s σ H Q I h
 refine isTrue_and (thn (ha pins s σ H _ I h) fun c s1 ⟨H1,I1,q1⟩=>?_)
 cases c with
 | true=>exact hb wh pins s1 σ H1 Q I1 q1
 | false=>exact ⟨H1,I1,q1⟩
theorem Bh (ha:PT X a tA) (hb:PW X (.BoolOp .Or (b :: rest) pos) tB'):PW X (.BoolOp .Or (a :: b :: rest) pos) (tOr tA tB'):=by
 intro wh pins s σ H Q I h
 refine isTrue_or (thn (ha pins s σ H _ I h) fun c s1 ⟨H1,I1,q1⟩=>?_)
 cases c with
 | true=>exact ⟨H1,I1,q1⟩
 | false=>exact hb wh pins s1 σ H1 Q I1 q1
theorem W6 (ha:PT X a tA):PT X (.UnaryOp .Not a pos) (Aga tA):=by
 intro pins s σ H Q I h
 exact isTrue_not (ha pins s σ H (fun c H1=>Q (!c) H1) I h)
noncomputable def Ae6 (ta tb:TE):TE:=fun σ H Q=>ta σ H fun x H1=>∃c,x = .bl c/\if c=true then tb σ H1 Q else Q (.bl false) H1
noncomputable def Agb (ta tb:TE):TE:=fun σ H Q=>ta σ H fun x H1=>∃c,x = .bl c/\if c=true then Q (.bl true) H1 else tb σ H1 Q
theorem Xp {op} {t:TE} (h:PE X a t):PE X (.BoolOp op [a] pos) t:=fun pins s σ H Q I hw=>BoolOp_one (h pins s σ H Q I hw)
theorem Adb (ha:PE X a ta) (hb:PE X (.BoolOp .And (b :: rest) pos) tb):PE X (.BoolOp .And (a :: b :: rest) pos) (Ae6 ta tb):=by
 intro pins s σ H Q I h
 refine BoolOp_and (thn (ha pins s σ H _ I h) fun v s1 ⟨x,H1,I1,r1,q1⟩=>?_)
 obtain ⟨c,rfl,q1⟩:=q1
 cases r1
 refine wpAny_truthy_bool ?_
 cases c with
 | true=>exact hb pins s1 σ H1 Q I1 q1
 | false=>exact ⟨.bl false,H1,I1,rfl,q1⟩
theorem Aew (ha:PE X a ta) (hb:PE X (.BoolOp .Or (b :: rest) pos) tb):PE X (.BoolOp .Or (a :: b :: rest) pos) (Agb ta tb):=by
 intro pins s σ H Q I h
 refine BoolOp_or (thn (ha pins s σ H _ I h) fun v s1 ⟨x,H1,I1,r1,q1⟩=>?_)
 obtain ⟨c,rfl,q1⟩:=q1
 cases r1
 refine wpAny_truthy_bool ?_
 cases c with
 | false=>exact hb pins s1 σ H1 Q I1 q1
 | true=>exact ⟨.bl true,H1,I1,rfl,q1⟩
end
noncomputable def SqL (K:Θf) (H:Hp) (a:Addr) (xs:List V):Prop:=
 Rd H a (.lst xs)\/
  ∃(o:Obj) (its:Array Value) (n:Nat),K.lookup a=some o/\o.cls = .type "list"/\o.dict=none/\o.data = .seq its n/\its.size<=sizeLine/\Vals xs its.toList
noncomputable def SqT (K:Θf) (H:Hp) (a:Addr) (xs:List V):Prop:=
 Rd H a (.tup xs)\/
  ∃(o:Obj) (its:Array Value) (n:Nat),K.lookup a=some o/\o.cls = .type "tuple"/\o.data = .seq its n/\its.size<=sizeLine/\Vals xs its.toList
noncomputable def Afn:Value->Option V
 | .none=>some .non
 | .bool b=>some (.bl b)
 | .int i _=>some (.int i)
 | .str x _=>some (.str x)
 | .bytes b _=>some (.byt b)
 | .float b _=>some (.flt b)
 | .ref a=>some (.ref a)
 | .type n=>some (.ty n)
 | _=>none
theorem RelV.abs {x:V} {u:Value} (r:RelV x u):Afn u=some x:=by
 cases x with
 | non=>cases r; rfl
 | bl _=>cases r; rfl
 | int _=>obtain ⟨t,rfl⟩:=r; rfl
 | str _=>obtain ⟨t,rfl⟩:=r; rfl
 | byt _=>obtain ⟨t,rfl⟩:=r; rfl
 | flt _=>obtain ⟨t,rfl⟩:=r; rfl
 | ref _=>cases r; rfl
 | ty _=>cases r; rfl
theorem RelV.inj {x y:V} {u:Value} (r:RelV x u) (q:RelV y u):x=y:=Θo (r.abs.symm.trans q.abs)
theorem Vals.inj:∀{xs ys:List V} {us:List Value},Vals xs us->Vals ys us->xs=ys
 | _,_,_,.nil,.nil=>rfl
 | _,_,_,.cons r t,.cons r' t'=>by rw [r.inj r',Vals.inj t t']
section
variable {X:Cx} {pins:List (Addr × Obj)} {σ:St} {H:Hp} {s:Shared} {a:Addr} {xs ys:List V}
theorem SqL.of {K:Θf} (h:H a=some (.lst xs)):SqL K H a xs:=.inl (.inl h)
theorem SqT.of {K:Θf} (h:H a=some (.tup xs)):SqT K H a xs:=.inl (.inl h)
theorem Inv.list (I:Inv X pins σ H s) (h:SqL X.K H a xs):∃its:List Value,Vals xs its/\PlainL s.heap a its.toArray/\xs.length<=sizeLine:=by
 rcases h with h | ⟨o,its,n,hk,hc,hd,hs,hz,r⟩
 ·obtain ⟨z,its,n,r,e⟩:=h.ok I.hok
  exact ⟨its,r,⟨_,n,e,rfl,rfl,rfl⟩,z⟩
 ·refine ⟨its.toList,r,⟨o,n,I.kIn a o hk,hc,hd,by simpa using hs⟩,?_⟩
  have e:=r.length
  simp only [Array.length_toList] at e
  omega
theorem Inv.tuple (I:Inv X pins σ H s) (h:SqT X.K H a xs):∃its:List Value,Vals xs its/\IsTup s.heap a its.toArray/\xs.length<=sizeLine:=by
 rcases h with h | ⟨o,its,n,hk,hc,hs,hz,r⟩
 ·obtain ⟨z,its,r,p⟩:=h.ok I.hok
  exact ⟨its,r,p,z⟩
 ·refine ⟨its.toList,r,⟨o,I.kIn a o hk,hc,n,by simpa using hs⟩,?_⟩
  have e:=r.length
  simp only [Array.length_toList] at e
  omega
theorem Inv.list_inj (I:Inv X pins σ H s) (h:SqL X.K H a xs) (h':SqL X.K H a ys):xs=ys:=by
 obtain ⟨its,r,⟨o,n,e,_,_,d⟩,_⟩:=I.list h
 obtain ⟨its',r',⟨o',n',e',_,_,d'⟩,_⟩:=I.list h'
 rw [e] at e'; cases e'
 rw [d] at d'
 injection d' with d1 _
 have:its=its':=by simpa using congrArg Array.toList d1
 subst this
 exact r.inj r'
theorem Inv.tuple_inj (I:Inv X pins σ H s) (h:SqT X.K H a xs) (h':SqT X.K H a ys):xs=ys:=by
 obtain ⟨its,r,⟨o,e,_,n,d⟩,_⟩:=I.tuple h
 obtain ⟨its',r',⟨o',e',_,n',d'⟩,_⟩:=I.tuple h'
 rw [e] at e'; cases e'
 rw [d] at d'
 injection d' with d1 _
 have:its=its':=by simpa using congrArg Array.toList d1
 subst this
 exact r.inj r'
end
noncomputable abbrev Cx.wish (X:Cx) (E:Value->Shared->Prop):Cx:={ X with xe:=E }
noncomputable abbrev Cx.nox (X:Cx):Cx:=X.wish fun _ _=>False
theorem Cx.Ok.wish {X:Cx} (ok:X.Ok) (E:Value->Shared->Prop):(X.wish E).Ok:=
 ⟨ok.mod,ok.kind,ok.glob,ok.blt,ok.above,ok.inj,ok.has,ok.cab,ok.hd,ok.frames,ok.stk,ok.exf,ok.bs,ok.bsz,ok.noex,ok.exfs,ok.funs,ok.frf⟩
theorem Cx.Ok.unwish {X:Cx} {E:Value->Shared->Prop} (ok:(X.wish E).Ok):X.Ok:=
 ⟨ok.mod,ok.kind,ok.glob,ok.blt,ok.above,ok.inj,ok.has,ok.cab,ok.hd,ok.frames,ok.stk,ok.exf,ok.bs,ok.bsz,ok.noex,ok.exfs,ok.funs,ok.frf⟩
section
variable {X:Cx} {pins:List (Addr × Obj)} {σ:St} {H:Hp} {s:Shared} {E:Value->Shared->Prop}
theorem Inv.wish (I:Inv X pins σ H s) (E:Value->Shared->Prop):Inv (X.wish E) pins σ H s:=⟨I.ok.wish E,I.os,I.bare,I.base,I.loc,I.cell,I.free,I.freeC,I.pin,I.hok,I.len⟩
theorem Inv.unwish (I:Inv (X.wish E) pins σ H s):Inv X pins σ H s:=⟨I.ok.unwish,I.os,I.bare,I.base,I.loc,I.cell,I.free,I.freeC,I.pin,I.hok,I.len⟩
theorem SP.unwish {D:Ends} {f:Flow} {s':Shared} (h:SP (X.wish E) pins D f s'):SP X pins D f s':=by
 cases f with
 | next=>obtain ⟨σ',H',I,q⟩:=h; exact ⟨σ',H',I.unwish,q⟩
 | brk=>obtain ⟨σ',H',I,q⟩:=h; exact ⟨σ',H',I.unwish,q⟩
 | cont=>obtain ⟨σ',H',I,q⟩:=h; exact ⟨σ',H',I.unwish,q⟩
 | ret u=>obtain ⟨v,σ',H',I,r,q⟩:=h; exact ⟨v,σ',H',I.unwish,r,q⟩
theorem PSs.nox {st:List Stmt} {t:TS} (h:PSs X.nox st t):PSs X st t:=fun pins s σ H D I hw=>
 wpAny_mono (h pins s σ H D (I.wish _) hw) (fun _ _ q=>q.unwish) fun _ _ z=>False.elim z
end
section
variable {X:Cx} {st:Stmt} {rest:List Stmt} {t u:TS} {e:Expr} {te:TE} {pos:Pos}
noncomputable def Afb:TS:=fun D σ H=>D.nx σ H
noncomputable def Agd (t u:TS):TS:=fun D σ H=>t { D with nx:=u D } σ H
theorem C9:PSs X [] Afb:=fun _ _ σ H _ I h=>wpAny_execs_nil ⟨σ,H,I,h⟩
theorem A8 (h1:PS X st t) (h2:PSs X rest u):PSs X (st :: rest) (Agd t u):=by
 intro pins s σ H D I h
 refine wpAny_execs_cons (thn (h1 pins s σ H { D with nx:=u D } I h) fun f s1 q=>?_)
 cases f with
 | next=>
  obtain ⟨σ',H',I',q⟩:=q
  exact h2 pins s1 σ' H' D I' q
 | ret v=>exact q
 | brk=>exact q
 | cont=>exact q
theorem B0 (h1:PS X st t):PSs X [st] t:=by
 intro pins s σ H D I h
 refine wpAny_execs_cons (thn (h1 pins s σ H D I h) fun f s1 q=>?_)
 cases f with
 | next=>exact wpAny_execs_nil q
 | ret v=>exact q
 | brk=>exact q
 | cont=>exact q
theorem Inv.quiet {pins:List (Addr × Obj)} {σ:St} {H:Hp} {s:Shared} (I:Inv X pins σ H s):interactive X.env=false:=by simp [interactive,I.ok.kind]
noncomputable def Ae7 (te:TE):TS:=fun D σ H=>te σ H fun _ H1=>D.nx σ H1
theorem P0 (he:PE X e te) (hs:swapsWith e none pos.line X.env=pure false:=by rfl):PS X (.Expr e pos) (Ae7 te):=by
 intro pins s σ H D I h
 exact wpAny_Expr_any (thn (he pins s σ H _ I h) fun v s1 ⟨x,H1,I1,r1,q1⟩=>⟨σ,H1,I1,q1⟩) I.quiet hs
noncomputable def Agc (te:TE):TS:=fun D σ H=>te σ H D.rt
theorem C2 (he:PE X e te):PS X (.Return (some e) pos) (Agc te):=by
 intro pins s σ H D I h
 exact wpAny_Return_some (thn (he pins s σ H _ I h) fun v s1 ⟨x,H1,I1,r1,q1⟩=>⟨x,σ,H1,I1,r1,q1⟩)
noncomputable def Af8 (c:TT) (t u:TS):TS:=fun D σ H=>c σ H fun b H1=>if b=true then t D σ H1 else u D σ H1
theorem E3 {c:Expr} {a b:List Stmt} {tc:TT} (hc:PT X c tc) (ha:PSs X a t) (hb:PSs X b u):PS X (.If c a b pos) (Af8 tc t u):=by
 intro pins s σ H D I h
 refine wpAny_If (thn (hc pins s σ H _ I h) fun d s1 ⟨H1,I1,q1⟩=>?_)
 cases d with
 | true=>exact ha pins s1 σ H1 D I1 q1
 | false=>exact hb pins s1 σ H1 D I1 q1
end
noncomputable abbrev TG:=V->St->Hp->(St->Hp->Prop)->Prop
noncomputable abbrev TGs:=List V->St->Hp->(St->Hp->Prop)->Prop
noncomputable def PG (X:Cx) (target:Expr) (t:TG):Prop:=
 ∀(pins:List (Addr × Obj)) (s:Shared) (σ:St) (H:Hp) (v:V) (u:Value) (Q:St->Hp->Prop),Inv X pins σ H s->RelV v u->t v σ H Q->
  wpAny (model X.prog X.w) X.A (assign target X.env u) (fun _ s'=>∃σ' H',Inv X pins σ' H' s'/\Q σ' H') X.xe s
noncomputable def PGs (X:Cx) (ts:List Expr) (t:TGs):Prop:=
 ∀(pins:List (Addr × Obj)) (s:Shared) (σ:St) (H:Hp) (vs:List V) (us:List Value) (Q:St->Hp->Prop),Inv X pins σ H s->Vals vs us->t vs σ H Q->
  wpAny (model X.prog X.w) X.A (assignInOrder ((assignEach ts X.env).map (·.2)) us) (fun _ s'=>∃σ' H',Inv X pins σ' H' s'/\Q σ' H') X.xe s
noncomputable abbrev Ab8:=V->V->V->Hp->(Hp->Prop)->Prop
noncomputable def Ad8 (X:Cx) (t:Ab8):Prop:=
 ∀(pins:List (Addr × Obj)) (s:Shared) (σ:St) (H:Hp) (o i v:V) (ov iv u:Value) (Q:Hp->Prop),Inv X pins σ H s->RelV o ov->RelV i iv->RelV v u->t o i v H Q->
  wpAny (model X.prog X.w) X.A (setItem ov iv u) (fun _ s'=>∃H',Inv X pins σ H' s'/\Q H') X.xe s
noncomputable abbrev TIp:=V->V->Hp->VK->Prop
noncomputable def PIp (X:Cx) (op:Operator) (t:TIp):Prop:=
 ∀(pins:List (Addr × Obj)) (s:Shared) (σ:St) (H:Hp) (x y:V) (v u:Value) (Q:VK),Inv X pins σ H s->RelV x v->RelV y u->t x y H Q->
  wpAny (model X.prog X.w) X.A (inplaceOp op v u) (EP X pins σ Q) X.xe s
section
variable {X:Cx} {pos:Pos}
noncomputable def Qi (i:Nat):TG:=fun v σ H Q=>Q (σ.set i (some v)) H
theorem D3 {i:Nat} {x:Str} (hN:X.N.Nodup) (hi:X.N[i]? = some x) (hx:Loc X.env.scope x) (hf:X.fn x=true\/X.env.scope.names.lookup x=some .local:=by first | exact .inl rfl | exact .inr rfl | assumption):PG X (.Name x pos) (Qi i):=by
 intro pins s σ H v u Q I r h
 exact wpAny_assign_Name (X3 I hN hi hx r (fun s' I'=>⟨_,H,I',h⟩) hf)
noncomputable def Afq:TGs:=fun vs σ H Q=>vs=[]/\Q σ H
noncomputable def Aek (t:TG) (u:TGs):TGs:=fun vs σ H Q=>∃v r,vs=v :: r/\t v σ H fun σ' H'=>u r σ' H' Q
theorem Q6:PGs X [] Afq:=by
 intro pins s σ H vs us Q I r h
 obtain ⟨e,h⟩:=h
 subst e
 cases r
 exact assignInOrder_nil ⟨σ,H,I,h⟩
theorem F3 {e:Expr} {es:List Expr} {t:TG} {u:TGs} (h1:PG X e t) (h2:PGs X es u)
  (hs:(assignEach (e :: es) X.env).map (·.2)=assign e X.env :: (assignEach es X.env).map (·.2):=by rfl):PGs X (e :: es) (Aek t u):=by
 intro pins s σ H vs us Q I r h
 obtain ⟨v,vr,e1,h⟩:=h
 subst e1
 cases r with
 | cons r rr=>
  rw [hs]
  refine assignInOrder_cons (thn (h1 pins s σ H _ _ _ I r h) fun _ s1 ⟨σ1,H1,I1,q1⟩=>?_)
  exact h2 pins s1 σ1 H1 _ _ Q I1 rr q1
noncomputable def Ael (K:Θf) (n:Nat) (t:TGs):TG:=fun v σ H Q=>∃a xs,v = .ref a/\SqT K H a xs/\xs.length=n/\t xs σ H Q
theorem W5 {es:List Expr} {k:Nat} {t:TGs} {n:Nat} (hc:X.calm=true) (h:PGs X es t)
  (hn:(assignEach es X.env).length=n:=by rfl) (hst:(assignEach es X.env).findIdx? (·.1)=none:=by rfl):PG X (.Tuple es k pos) (Ael X.K n t):=by
 intro pins s σ H v u Q I r hw
 obtain ⟨a,xs,e1,hq,hl,hw⟩:=hw
 subst e1
 cases r
 obtain ⟨its,rv,ht,hz⟩:=I.tuple hq
 refine assign_Tuple_tuple (I.ok.hd hc) ht (by simp [hn,<-hl,rv.length]) hst fun h' hx=>?_
 have I1:Inv X pins σ H { s with heap:=h' }:=I.kept (t':=s.toks) fun b o e=>hx b o (Zs_ (Zn_ e)) e
 exact h pins _ σ H xs _ Q I1 (by simpa using rv) hw
noncomputable def Afr (to ti:TE) (t:Ab8):TG:=fun v σ H Q=>to σ H fun o H1=>ti σ H1 fun i H2=>t o i v H2 fun H3=>Q σ H3
theorem Xq {o i:Expr} {to ti:TE} {t:Ab8} (ho:PE X o to) (hi:PE X i ti) (hs:Ad8 X t)
  (ha:∀v,assign (.Subscript o i pos) X.env v=(do
   let ov <-holding [v] (eval o X.env)
   let iv <-holding [v,ov] (eval i X.env)
   standAt pos
   holding [v,ov,iv] (setItem ov iv v)
   release [v,ov,iv] []):=by intro _; rfl):PG X (.Subscript o i pos) (Afr to ti t):=by
 intro pins s σ H v u Q I r h
 rw [ha]
 refine Za_ (wpAny_holding (thn (ho pins s σ H _ I h) fun ov s1 ⟨x,H1,I1,r1,q1⟩=>?_))
 refine Za_ (wpAny_holding (thn (hi pins s1 σ H1 _ I1 q1) fun iv s2 ⟨y,H2,I2,r2,q2⟩=>?_))
 refine Za_ (wpAny_standAt (Za_ (wpAny_holding (thn (hs pins s2 σ H2 x y v ov iv u _ I2 r1 r2 r q2) fun _ s3 ⟨H3,I3,q3⟩=>?_))))
 exact wpAny_release ⟨σ,H3,I3,q3⟩
noncomputable def Abm (te:TE) (g:TG):TS:=fun D σ H=>te σ H fun x H1=>g x σ H1 D.nx
theorem Jw {tg e:Expr} {te:TE} {g:TG} (he:PE X e te) (hg:PG X tg g) (hs:swapsWithSole [tg] e pos.line X.env=pure false:=by rfl) (hw:swappedStores [tg] e X.env=pure none:=by rfl)
  (h1:(assignEach [tg] X.env).map (·.2)=[assign tg X.env]:=by rfl):PS X (.Assign [tg] e pos) (Abm te g):=by
 intro pins s σ H D I h
 refine wpAny_Assign_stores (thn (he pins s σ H _ I h) fun v s1 ⟨x,H1,I1,r1,q1⟩=>?_) hs hw
 rw [h1]
 exact thn (hg pins s1 σ H1 x v _ I1 r1 q1) fun _ s2 q=>q
theorem C3 {i:Nat} {x:Str} {e:Expr} {te:TE} {pos':Pos} (hN:X.N.Nodup) (hi:X.N[i]? = some x) (hx:Loc X.env.scope x) (he:PE X e te) (hs:swapsWith e (some (.Name x pos')) pos.line X.env=pure false:=by rfl) (hf:X.fn x=true\/X.env.scope.names.lookup x=some .local:=by first | exact .inl rfl | exact .inr rfl | assumption) :
  PS X (.Assign [.Name x pos'] e pos) (Abm te (Qi i)):=by
 intro pins s σ H D I h
 refine wpAny_Assign_Name (thn (he pins s σ H _ I h) fun v s1 ⟨y,H1,I1,r1,q1⟩=>?_) hs
 exact X3 I1 hN hi hx r1 (fun s2 I2=>⟨_,H1,I2,q1⟩) hf
noncomputable def Af4 (i:Nat) (te:TE) (ti:TIp):TS:=fun D σ H=>∃x,σ[i]? = some (some x)/\te σ H fun y H1=>ti x y H1 fun z H2=>D.nx (σ.set i (some z)) H2
theorem Adl {i:Nat} {x:Str} {e:Expr} {te:TE} {op:Operator} {ti:TIp} {pos':Pos} (hN:X.N.Nodup) (hi:X.N[i]? = some x) (hx:Loc X.env.scope x) (he:PE X e te) (ho:PIp X op ti) (hf:X.fn x=true\/X.env.scope.names.lookup x=some .local:=by first | exact .inl rfl | exact .inr rfl | assumption) :
  PS X (.AugAssign (.Name x pos') op e pos) (Af4 i te ti):=by
 intro pins s σ H D I h
 obtain ⟨v,e1,h⟩:=h
 obtain ⟨m,hn,hl⟩:=I.loc
 have vis:Vis X.env.scope x:=by rcases hx with k | k; exact .inl k; exact .inr (.inl k)
 obtain ⟨u,r,l⟩:=hl i x v hi e1 vis
 refine wpAny_AugAssign_Name ?_
 have go:wpAny (model X.prog X.w) X.A (eval e X.env) (fun w s₂=>wpAny (model X.prog X.w) X.A (inplaceOp op u w) (fun r s₃=>wpAny (model X.prog X.w) X.A (storeName X.env x r) (fun _=>SP X pins D .next) X.xe s₃) X.xe s₂) X.xe s:=by
  refine thn (he pins s σ H _ I h) fun w s1 ⟨y,H1,I1,r1,q1⟩=>?_
  refine thn (ho pins s1 σ H1 v y u w _ I1 r r1 q1) fun z s2 ⟨zv,H2,I2,r2,q2⟩=>?_
  exact X3 I2 hN hi hx r2 (fun s3 I3=>⟨_,H2,I3,q2⟩) hf
 rcases l with ⟨hk,hm⟩ | ⟨hk,c,hc,hcell⟩
 ·exact wpAny_loadName_local I.ok.kind hk hn hm go
 ·rcases hk with hk | hk
  ·exact wpAny_loadName_cell I.ok.kind hk hc hcell go
  ·rcases hx with k | k
   ·have:X.env.scope.names.lookup x=some .free:=hk
    rw [k] at this; cases this
   ·have:X.env.scope.names.lookup x=some .free:=hk
    rw [k] at this; cases this
noncomputable def ipI (f:Int->Int->Int):TIp:=fun x y H Q=>∃i j,x = .int i/\y = .int j/\Q (.int (f i j)) H
theorem Acj:PIp X .Add (ipI fun i j=>i + j):=by
 intro pins s σ H x y v u Q I r1 r2 h
 obtain ⟨i,j,e1,e2,q⟩:=h
 subst e1; subst e2
 obtain ⟨t,rfl⟩:=r1
 obtain ⟨t',rfl⟩:=r2
 exact iadd_int ⟨.int _,H,I.tok _,⟨_,rfl⟩,q⟩
end
section
variable {X:Cx} {pos:Pos}
noncomputable def Ad2 (c:TT) (tb:TS):TS:=fun D σ H=>∃W:Nat->St->Hp->Prop,(∃m,W m σ H)/\∀m σ H,W m σ H->
 c σ H fun b H1=>if b=true then ∃N:St->Hp->Prop,(∀σ' H',N σ' H'->∃m',m' < m/\W m' σ' H')/\tb { D with nx:=N,ct:=N,bk:=D.nx } σ H1 else D.nx σ H1
theorem Fi {c:Expr} {body:List Stmt} {tc:TT} {tb:TS} (hp:PassesOwn (model X.prog X.w) X.A X.env X.xe) (hc:PT X c tc) (hb:PSs X body tb):PS X (.While c body [] pos) (Ad2 tc tb):=by
 intro pins s σ H D I h
 obtain ⟨W,⟨m0,w0⟩,turn⟩:=h
 refine wpAny_While (codeAny_whileLoop (fun n s'=>∃σ' H',Inv X pins σ' H' s'/\W n σ' H') ?_ m0 ⟨σ,H,I,w0⟩)
 rintro n s1 ⟨σ1,H1,I1,w1⟩
 refine wpAny_passesOwn hp (thn (hc pins s1 σ1 H1 _ I1 (turn n σ1 H1 w1)) fun b s2 ⟨H2,I2,q2⟩=>?_)
 cases b with
 | true=>
  obtain ⟨N,hN,q2⟩:=q2
  rw [if_pos rfl]
  refine wpAny_passesOwn hp (thn (hb pins s2 σ1 H2 _ I2 q2) fun f s3 q3=>?_)
  cases f with
  | next=>
   obtain ⟨σ3,H3,I3,n3⟩:=q3
   obtain ⟨m',hm,w3⟩:=hN σ3 H3 n3
   exact ⟨m',hm,σ3,H3,I3,w3⟩
  | cont=>
   obtain ⟨σ3,H3,I3,n3⟩:=q3
   obtain ⟨m',hm,w3⟩:=hN σ3 H3 n3
   exact ⟨m',hm,σ3,H3,I3,w3⟩
  | brk=>exact q3
  | ret v=>exact q3
 | false=>
  rw [if_neg Zf_]
  exact wpAny_execs_nil ⟨σ1,H2,I2,q2⟩
end
structure It where
 go:Nat->Hp->Prop
 yld:Nat->Hp->V->Hp->Prop
 stop:Nat->Hp->Prop
noncomputable def FpOk (X:Cx) (pins:List (Addr × Obj)) (H:Hp) (b:Addr):Prop:=
 H b=none/\b≠X.env.locals/\b∉X.fs/\(b∈X.ex\/X.s₀.heap.objs.size<=b)/\(∀x c,X.env.cells.lookup x=some c->c≠b)/\∀p∈X.pn++pins,p.1≠b
theorem Inv.fpOk {X:Cx} {pins:List (Addr × Obj)} {σ:St} {H H':Hp} {s:Shared} {b:Addr} (I:Inv X pins σ H s) (hb:s.heap.objs.size<=b) (hn:H' b=none):FpOk X pins H' b:=by
 refine ⟨hn,Nat.ne_of_gt (Zq_ I.lt hb),I.nofs hb,.inr (Zo_ I.sz hb),fun x c e z=>?_,fun p hp z=>?_⟩
 ·obtain ⟨v,q⟩:=I.cell x c e
  exact absurd (Zq_ q.lt (by rw [z]; exact hb)) (Nat.lt_irrefl _)
 ·exact absurd (Zq_ (Zn_ (I.pin p hp).1) (by rw [z]; exact hb)) (Nat.lt_irrefl _)
structure Turn (P:Program) (w:World) (K:Θf) (tg:Expr) (J:It) (fp:List Addr) (it:Addr) (tn:Nat->Heap->Prop):Prop where
 mem:it∈fp
 obj:∀i h,tn i h->∀b∈fp,∃o,h.get? b=some o/\∀v,o.data≠.cell v
 keep:∀i h h',tn i h->(∀b∈fp,∀o,h.get? b=some o->h'.get? b=some o)->tn i h'
 item:∀(X:Cx),X.prog=P->X.w=w->X.K=K->X.calm=true->∀(i:Nat) (pins:List (Addr × Obj)) (s:Shared) (σ:St) (H:Hp) (E:Value->Shared->Prop),Inv X pins σ H s->(∀b∈fp,FpOk X pins H b)->tn i s.heap->J.go i H->
  wpAny (model P w) X.A (pyNext (.ref it)) (fun r s1=>∃u,r=some u/\
   wpAny (model P w) X.A (letOwnedTupleGo tg (.ref it) u) (fun _ s2=>∃x H',Inv X pins σ H' s2/\RelV x u/\J.yld i H x H'/\tn (i + 1) s2.heap/\∀b∈fp,H' b=none) E s1) E s
 done:∀(X:Cx),X.prog=P->X.w=w->X.K=K->X.calm=true->∀(i:Nat) (pins:List (Addr × Obj)) (s:Shared) (σ:St) (H:Hp) (E:Value->Shared->Prop),Inv X pins σ H s->(∀b∈fp,FpOk X pins H b)->tn i s.heap->J.stop i H->
  wpAny (model P w) X.A (pyNext (.ref it)) (fun r s1=>r=none/\Inv X pins σ H s1) E s
 self:∀(A:Around) (i:Nat) (s:Shared) (Q:Value->Shared->Prop) (E:Value->Shared->Prop),tn i s.heap->Q (.ref it) s->wpAny (model P w) A (pyIter (.ref it)) Q E s
noncomputable abbrev TI:=St->Hp->(It->Hp->Prop)->Prop
noncomputable def PIE (X:Cx) (pins:List (Addr × Obj)) (σ:St) (tg:Expr) (R:It->Hp->Prop) (itv:Value) (s2:Shared):Prop:=
 ∃(it:Addr) (fp:List Addr) (tn:Nat->Heap->Prop) (J:It) (H':Hp),itv = .ref it/\Inv X pins σ H' s2/\Turn X.prog X.w X.K tg J fp it tn/\tn 0 s2.heap/\(∀b∈fp,FpOk X pins H' b)/\R J H'
noncomputable def PI (X:Cx) (tg iter:Expr) (wi:TI):Prop:=
 ∀(pins:List (Addr × Obj)) (s:Shared) (σ:St) (H:Hp) (R:It->Hp->Prop),Inv X pins σ H s->wi σ H R->
  wpAny (model X.prog X.w) X.A (eval iter X.env) (fun v s1=>wpAny (model X.prog X.w) X.A (pyIter v) (PIE X pins σ tg R) X.xe s1) X.xe s
theorem Qk {M:Model} {A:Around} {E:Value->Shared->Prop} {s:Shared} {tg:Expr} {it:Addr} {u:Value} {o:Obj} {n:String} {vs:Array Value} {Q:Unit->Shared->Prop} (ho:s.heap.get? it=some o) (hc:o.cls = .type n) (hd:o.data = .fields vs)
  (hn:["enumerate","zip","dict_itemiterator","dict_reverseitemiterator","odict_iterator","itertools.zip_longest","itertools.pairwise"].contains n=false) (hQ:Q () s):wpAny M A (letOwnedTupleGo tg (.ref it) u) Q E s:=by
 unfold letOwnedTupleGo
 cases tg <;> first
  | exact Zb_ hQ
  | (cases u <;> first
    | exact Zb_ hQ
    | (refine Za_ (wpAny_load ho ?_)
       rw [hc,hd]
       show wpAny M A (if (["enumerate","zip","dict_itemiterator","dict_reverseitemiterator","odict_iterator","itertools.zip_longest","itertools.pairwise"].contains n && vs[0]? == some (rawInt _))=true then _ else _) Q E s
       rw [if_neg (by intro h; rw [hn,Bool.false_and] at h; cases h)]
       exact Zb_ hQ))
noncomputable def Itl (K:Θf) (a:Addr):It:=
 ⟨fun i H=>∃xs x,SqL K H a xs/\xs[i]? = some x,fun i H x H'=>H' = H/\∀xs,SqL K H a xs->xs[i]? = some x,fun i H=>∃xs,SqL K H a xs/\xs.length<=i⟩
noncomputable def Itt (K:Θf) (a:Addr):It:=
 ⟨fun i H=>∃xs x,SqT K H a xs/\xs[i]? = some x,fun i H x H'=>H' = H/\∀xs,SqT K H a xs->xs[i]? = some x,fun i H=>∃xs,SqT K H a xs/\xs.length<=i⟩
noncomputable def Itr (lo:Int) (n:Nat):It:=⟨fun i _=>i < n,fun i H x H'=>H' = H/\x = .int (lo + i),fun i _=>n<=i⟩
theorem Um {P:Program} {w:World} {K:Θf} {tg:Expr} (a it:Addr):Turn P w K tg (Itl K a) [it] it (fun i h=>h.IsListIter it a i) where
 mem:=by simp
 obj:=fun i h st b hb=>by
  have e:b=it:=by simpa using hb
  subst e
  obtain ⟨o,e,c,d⟩:=st
  exact ⟨o,e,fun v z=>by rw [d] at z; cases z⟩
 keep:=fun i h h' st k=>st.at fun o e=>k it (by simp) o e
 item:=by
  intro X hP hw hK hc i pins s σ H E I hf st hg
  subst hP hw hK
  obtain ⟨xs,x,hq,hx⟩:=hg
  obtain ⟨its,rv,p,hz⟩:=I.list hq
  obtain ⟨u,hu,ru⟩:=rv.get hx
  obtain ⟨f0,f1,f2,f3,f4,f5⟩:=hf it (by simp)
  refine wpAny_pyNext_list_item st p.isList (x:=u) (by simpa using hu) fun h' st' sb=>?_
  have I1:Inv X pins σ H { s with heap:=h' }:=I.turned (t':=s.toks) (fun b o hb e=>(sb.2 b hb).trans e) f0 f1 f3 f4 f5
  obtain ⟨o,e,c,d⟩:=id st'
  exact ⟨u,rfl,Qk (s:={ s with heap:=h' }) e c d (by decide) ⟨x,H,I1,ru,⟨rfl,fun ys hy=>by rw [I.list_inj hy hq]; exact hx⟩,st',fun b hb=>(hf b hb).1⟩⟩
 done:=by
  intro X hP hw hK hc i pins s σ H E I hf st hg
  subst hP hw hK
  obtain ⟨xs,hq,hx⟩:=hg
  obtain ⟨its,rv,p,hz⟩:=I.list hq
  obtain ⟨f0,f1,f2,f3,f4,f5⟩:=hf it (by simp)
  have hl:=rv.length
  exact wpAny_pyNext_list_end (I.ok.hd hc) st p.isList (by simp; omega) fun h' eb=>⟨rfl,I.turned (t':=s.toks) (fun b o hb e=>eb b o hb e) f0 f1 f3 f4 f5⟩
 self:=fun _ _ _ _ _ st h=>wpAny_pyIter_listiter st h
theorem Pr {P:Program} {w:World} {K:Θf} {tg:Expr} (a it:Addr):Turn P w K tg (Itt K a) [it] it (fun i h=>h.IsTupleIter it a i) where
 mem:=by simp
 obj:=fun i h st b hb=>by
  have e:b=it:=by simpa using hb
  subst e
  obtain ⟨o,e,c,d⟩:=st
  exact ⟨o,e,fun v z=>by rw [d] at z; cases z⟩
 keep:=fun i h h' st k=>st.at fun o e=>k it (by simp) o e
 item:=by
  intro X hP hw hK hc i pins s σ H E I hf st hg
  subst hP hw hK
  obtain ⟨xs,x,hq,hx⟩:=hg
  obtain ⟨its,rv,p,hz⟩:=I.tuple hq
  obtain ⟨u,hu,ru⟩:=rv.get hx
  obtain ⟨f0,f1,f2,f3,f4,f5⟩:=hf it (by simp)
  refine wpAny_pyNext_tuple_item st (show s.heap.IsTuple a its.toArray from p) (x:=u) (by simpa using hu) fun h' st' sb=>?_
  have I1:Inv X pins σ H { s with heap:=h' }:=I.turned (t':=s.toks) (fun b o hb e=>(sb.2 b hb).trans e) f0 f1 f3 f4 f5
  obtain ⟨o,e,c,d⟩:=id st'
  exact ⟨u,rfl,Qk (s:={ s with heap:=h' }) e c d (by decide) ⟨x,H,I1,ru,⟨rfl,fun ys hy=>by rw [I.tuple_inj hy hq]; exact hx⟩,st',fun b hb=>(hf b hb).1⟩⟩
 done:=by
  intro X hP hw hK hc i pins s σ H E I hf st hg
  subst hP hw hK
  obtain ⟨xs,hq,hx⟩:=hg
  obtain ⟨its,rv,p,hz⟩:=I.tuple hq
  obtain ⟨f0,f1,f2,f3,f4,f5⟩:=hf it (by simp)
  have hl:=rv.length
  exact wpAny_pyNext_tuple_end (I.ok.hd hc) st (show s.heap.IsTuple a its.toArray from p) (by simp; omega) fun h' eb=>⟨rfl,I.turned (t':=s.toks) (fun b o hb e=>eb b o hb e) f0 f1 f3 f4 f5⟩
 self:=fun _ _ _ _ _ st h=>wpAny_pyIter_tupleiter st h
theorem Pp {P:Program} {w:World} {K:Θf} {tg:Expr} (it:Addr) (lo:Int) (n:Nat):Turn P w K tg (Itr lo n) [it] it (fun i h=>IsRangeIter h it (lo + (i:Nat) * 1) ((n:Int) - (i:Nat)) 1) where
 mem:=by simp
 obj:=fun i h st b hb=>by
  have e:b=it:=by simpa using hb
  subst e
  exact ⟨_,st,fun v z=>by
   have z':Data.fields _=Data.cell v:=z
   cases z'⟩
 keep:=fun i h h' st k=>k it (by simp) _ st
 item:=by
  intro X hP hw hK hc i pins s σ H E I hf st hg
  subst hP hw hK
  obtain ⟨f0,f1,f2,f3,f4,f5⟩:=hf it (by simp)
  have W:=Walks.range (prog:=X.prog) (w:=X.w) (I.ok.hd hc) it lo 1 n
  refine W.item i s _ _ hg st fun v h' tk hv st' kk=>?_
  obtain ⟨t,rfl⟩:=hv
  have I1:Inv X pins σ H { s with heap:=h',toks:=tk }:=I.turned (fun b o hb e=>kk b o (by simpa using hb) e) f0 f1 f3 f4 f5
  refine ⟨_,rfl,Qk (s:={ s with heap:=h',toks:=tk }) (n:="range_iterator") st' rfl rfl (by decide) ⟨.int (lo + i),H,I1,⟨t,?_⟩,⟨rfl,rfl⟩,st',fun b hb=>(hf b hb).1⟩⟩
  rw [Int.mul_one]
 done:=by
  intro X hP hw hK hc i pins s σ H E I hf st hg
  subst hP hw hK
  obtain ⟨f0,f1,f2,f3,f4,f5⟩:=hf it (by simp)
  exact wpAny_pyNext_range_end (I.ok.hd hc) st (by have:n<=i:=hg; omega) fun h' eb=>⟨rfl,I.turned (t':=s.toks) (fun b o hb e=>eb b o hb e) f0 f1 f3 f4 f5⟩
 self:=fun _ _ _ _ _ st h=>wpAny_pyIter_rangeiter st h
section
variable {X:Cx} {tg:Expr}
noncomputable def Abv (K:Θf) (tl:TE):TI:=fun σ H R=>tl σ H fun x H1=>∃a,x = .ref a/\(∃xs,SqL K H1 a xs)/\R (Itl K a) H1
noncomputable def Aep (K:Θf) (tl:TE):TI:=fun σ H R=>tl σ H fun x H1=>∃a,x = .ref a/\(∃xs,SqT K H1 a xs)/\R (Itt K a) H1
theorem Aa4 {l:Expr} {tl:TE} (hl:PE X l tl):PI X tg l (Abv X.K tl):=by
 intro pins s σ H R I h
 refine thn (hl pins s σ H _ I h) fun v s1 ⟨x,H1,I1,r1,q1⟩=>?_
 obtain ⟨a,e,⟨xs,hq⟩,q⟩:=q1
 subst e
 cases r1
 obtain ⟨its,rv,p,hz⟩:=I1.list hq
 refine wpAny_pyIter_list p.isList ?_
 refine ⟨s1.heap.objs.size,[s1.heap.objs.size],_,_,H1,rfl,I1.kept (t':=s1.toks) fun b o e=>Zc_ _ e,Um a _,⟨_,Zm_ _ rfl,rfl,rfl⟩,fun b hb=>?_,q⟩
 have e:b=s1.heap.objs.size:=by simpa using hb
 subst e
 exact I1.fpOk (Zd_ _) (I1.hok.fresh (Zd_ _))
theorem Adj {l:Expr} {tl:TE} (hl:PE X l tl):PI X tg l (Aep X.K tl):=by
 intro pins s σ H R I h
 refine thn (hl pins s σ H _ I h) fun v s1 ⟨x,H1,I1,r1,q1⟩=>?_
 obtain ⟨a,e,⟨xs,hq⟩,q⟩:=q1
 subst e
 cases r1
 obtain ⟨its,rv,p,hz⟩:=I1.tuple hq
 refine wpAny_pyIter_tuple (show s1.heap.IsTuple a its.toArray from p) ?_
 refine ⟨s1.heap.objs.size,[s1.heap.objs.size],_,_,H1,rfl,I1.kept (t':=s1.toks) fun b o e=>Zc_ _ e,Pr a _,⟨_,Zm_ _ rfl,rfl,rfl⟩,fun b hb=>?_,q⟩
 have e:b=s1.heap.objs.size:=by simpa using hb
 subst e
 exact I1.fpOk (Zd_ _) (I1.hok.fresh (Zd_ _))
theorem Mi {pins:List (Addr × Obj)} {σ:St} {H:Hp} {s:Shared} {R:It->Hp->Prop} {E:Value->Shared->Prop} {lo hi:Int} {t u v:Tok} {tk:Nat} (I:Inv X pins σ H s) (h1:-(2 ^ 62)<=lo) (h2:lo < 2 ^ 62) (h3:-(2 ^ 62)<=hi) (h4:hi < 2 ^ 62)
  (q:R (Itr lo (hi - lo).toNat) H):wpAny (model X.prog X.w) X.A (pyIter (.ref s.heap.objs.size)) (PIE X pins σ tg R) E { s with heap:=s.heap.push { cls:=.type "range",data:=.fields #[.int lo t,.int hi u,.int 1 v] },toks:=tk }:=by
 refine wpAny_pyIter_range (IsRange.new ..) (small_one h1 h2 h3 h4) ?_
 have I1:Inv X pins σ H { s with heap:=s.heap.push { cls:=.type "range",data:=.fields #[.int lo t,.int hi u,.int 1 v] },toks:=tk }:=I.kept fun b o e=>Zc_ _ e
 refine ⟨(s.heap.push { cls:=.type "range",data:=.fields #[.int lo t,.int hi u,.int 1 v] }).objs.size,[(s.heap.push { cls:=.type "range",data:=.fields #[.int lo t,.int hi u,.int 1 v] }).objs.size],_,_,H,rfl,
  I1.kept (t':=tk) fun b o e=>Zc_ _ e,Pp _ lo (hi - lo).toNat,?_,fun b hb=>?_,q⟩
 ·have e1:lo + ((0:Nat):Int) * 1=lo:=by simp
  have e2:(((hi - lo).toNat:Nat):Int) - ((0:Nat):Int)=Builtin.Range.rangeSize lo hi 1:=by rw [rangeSize_one]; split <;> omega
  show IsRangeIter _ _ (lo + ((0:Nat):Int) * 1) ((((hi - lo).toNat:Nat):Int) - ((0:Nat):Int)) 1
  rw [e1,e2]
  exact Zm_ _ rfl
 ·have e:b=(s.heap.push { cls:=.type "range",data:=.fields #[.int lo t,.int hi u,.int 1 v] }).objs.size:=by simpa using hb
  subst e
  exact I1.fpOk (Zd_ _) (I1.hok.fresh (Zd_ _))
noncomputable def Aen (ta:TA):TI:=fun σ H R=>ta σ H fun vs H1=>∃j:Int,vs=[.int j]/\-(2 ^ 62)<=j/\j < 2 ^ 62/\R (Itr 0 j.toNat) H1
noncomputable def Aeo (ta:TA):TI:=fun σ H R=>ta σ H fun vs H1=>∃i j:Int,vs=[.int i,.int j]/\(-(2 ^ 62)<=i/\i < 2 ^ 62/\-(2 ^ 62)<=j/\j < 2 ^ 62)/\R (Itr i (j - i).toNat) H1
theorem M6 {a:Expr} {ta:TA} {p pos:Pos} (hg:Gl X "range") (hm:X.mg "range" = none) (ha:PA X [a] ta) (hs:starEach [a] X.env=[(false,eval a X.env)]:=by rfl):PI X tg (.Call (.Name "range" p) [a] [] pos) (Aen ta):=by
 intro pins s σ H R I h
 refine Call_ (Z7 I hg hm boot_range (PyProof.Rows.callWith_type1 (thn (ha pos pins s σ H _ I h) fun us s1 ⟨vs,H1,I1,r1,q1⟩=>?_) hs rfl))
 obtain ⟨j,e,q1,q2,q⟩:=q1
 subst e
 cases r1 with
 | cons r rr=>
  cases rr
  obtain ⟨t,rfl⟩:=r
  exact call_range_1 (Mi I1 (by omega) (by omega) q1 q2 (by simpa using q))
theorem Tu {a b:Expr} {ta:TA} {p pos:Pos} (hg:Gl X "range") (hm:X.mg "range" = none) (ha:PA X [a,b] ta) (hs:starEach [a,b] X.env=[(false,eval a X.env),(false,eval b X.env)]:=by rfl) (hs2:starEach [b] X.env=[(false,eval b X.env)]:=by rfl) :
  PI X tg (.Call (.Name "range" p) [a,b] [] pos) (Aeo ta):=by
 intro pins s σ H R I h
 refine Call_ (Z7 I hg hm boot_range (PyProof.Rows.callWith_type1 (thn (ha pos pins s σ H _ I h) fun us s1 ⟨vs,H1,I1,r1,q1⟩=>?_) (by rw [hs,hs2]) (by rw [hs2]; rfl)))
 obtain ⟨i,j,e,⟨q1,q2,q3,q4⟩,q⟩:=q1
 subst e
 cases r1 with
 | cons r rr=>
  cases rr with
  | cons r' rr=>
   cases rr
   obtain ⟨t,rfl⟩:=r
   obtain ⟨t',rfl⟩:=r'
   exact call_range_2 (Mi I1 q1 q2 q3 q4 q)
noncomputable def Af6 (wi:TI) (g:TG) (tb:TS):TS:=fun D σ H=>wi σ H fun J H1=>∃W:Nat->Nat->St->Hp->Prop,(∃m,W 0 m σ H1)/\∀i m σ H,W i m σ H->
 (J.stop i H/\D.nx σ H)\/(J.go i H/\∃N:St->Hp->Prop,(∀σ' H',N σ' H'->∃m',m' < m/\W (i + 1) m' σ' H')/\∀x H',J.yld i H x H'->g x σ H' fun σ2 H2=>tb { D with nx:=N,ct:=N,bk:=D.nx } σ2 H2)
noncomputable def Fh (fp:List Addr) (h:Heap):List (Addr × Obj):=fp.filterMap fun b=>(h.get? b).map fun o=>(b,o)
theorem U8 {fp:List Addr} {h:Heap} {b:Addr} {o:Obj} (hb:b∈fp) (e:h.get? b=some o):(b,o)∈Fh fp h:=List.mem_filterMap.mpr ⟨b,hb,by rw [e]; rfl⟩
theorem Tc {fp:List Addr} {h:Heap} {p:Addr × Obj} (hp:p∈Fh fp h):p.1∈fp/\h.get? p.1=some p.2:=by
 obtain ⟨b,hb,e⟩:=List.mem_filterMap.mp hp
 cases q:h.get? b with
 | none=>rw [q] at e; cases e
 | some o=>
  rw [q] at e
  have e':(b,o)=p:=Θo e
  subst e'
  exact ⟨hb,q⟩
theorem Inv.pinned {pins:List (Addr × Obj)} {σ:St} {H:Hp} {s:Shared} {fp:List Addr} (I:Inv X pins σ H s) (hf:∀b∈fp,FpOk X pins H b) (ho:∀b∈fp,∃o,s.heap.get? b=some o/\∀v,o.data≠.cell v):Inv X (pins++Fh fp s.heap) σ H s:=
 I.pins_of fun p hp=>(Θa hp).elim (fun z=>I.pin p (Zh_ _ z)) fun z=>by
  obtain ⟨hb,e⟩:=Tc z
  obtain ⟨f0,f1,f2,_⟩:=hf p.1 hb
  obtain ⟨o,e',d⟩:=ho p.1 hb
  rw [e] at e'; cases e'
  exact ⟨e,f0,f1,f2,d⟩
theorem Inv.unpinned {pins pl:List (Addr × Obj)} {σ:St} {H:Hp} {s:Shared} (I:Inv X (pins++pl) σ H s):Inv X pins σ H s:=I.pins_of fun p hp=>I.pin p (Zh_ _ (Zt_ _ hp))
theorem L7 {iter:Expr} {body:List Stmt} {wi:TI} {g:TG} {tb:TS} {pos:Pos} (hp:PassesOwn (model X.prog X.w) X.A X.env X.xe) (hc:X.calm=true) (hi:PI X tg iter wi) (hg:PG X tg g) (hb:PSs X body tb)
  (hs:∀x,foldedSetIterable iter X.env x=pure x:=by intro _; rfl):PS X (.For tg iter body [] pos) (Af6 wi g tb):=by
 intro pins s σ H D I h
 refine wpAny_For (thn (hi pins s σ H _ I h) fun v s1 h1=>thn h1 fun itv s2 h2=>?_) hs
 obtain ⟨it,fp,tn,J,H2,e,I2,T,st2,f2,W,⟨m0,w0⟩,turn⟩:=h2
 subst e
 have stat:∀{H':Hp},(∀b∈fp,H' b=none)->∀b∈fp,FpOk X pins H' b:=fun hn b hb=>⟨hn b hb,(f2 b hb).2⟩
 refine codeAny_forLoop_any (fun n s'=>∃i σ' H',Inv X pins σ' H' s'/\tn i s'.heap/\(∀b∈fp,H' b=none)/\W i n σ' H') ?_ m0 ⟨0,σ,H2,I2,st2,fun b hb=>(f2 b hb).1,w0⟩
 rintro n s3 ⟨i,σ3,H3,I3,st3,fr3,w3⟩
 rcases turn i n σ3 H3 w3 with ⟨stop,qn⟩ | ⟨go,N,hN,step⟩
 ·refine wpAny_passesOwn hp (thn (T.done X rfl rfl rfl hc i pins s3 σ3 H3 X.xe I3 (stat fr3) st3 stop) fun r s4 ⟨hr,I4⟩=>?_)
  subst hr
  exact wpAny_execs_nil ⟨σ3,H3,I4,qn⟩
 ·refine wpAny_passesOwn hp (thn (T.item X rfl rfl rfl hc i pins s3 σ3 H3 X.xe I3 (stat fr3) st3 go) fun r s4 ⟨u,hr,h4⟩=>?_)
  subst hr
  refine wpAny_passesOwn hp (thn h4 fun _ s5 ⟨x,H5,I5,r5,y5,st5,fr5⟩=>?_)
  have I5':=I5.pinned (stat fr5) (T.obj _ _ st5)
  refine wpAny_passesOwn hp (thn (hg _ s5 σ3 H5 x u _ I5' r5 (step x H5 y5)) fun _ s6 ⟨σ6,H6,I6,q6⟩=>?_)
  refine wpAny_passesOwn hp (thn (hb _ s6 σ6 H6 _ I6 q6) fun f s7 q7=>?_)
  have again:∀{σ7:St} {H7:Hp},Inv X (pins++Fh fp s5.heap) σ7 H7 s7->N σ7 H7->∃m,m < n/\∃i σ' H',Inv X pins σ' H' s7/\tn i s7.heap/\(∀b∈fp,H' b=none)/\W i m σ' H':=fun {σ7 H7} I7 n7=>by
   obtain ⟨m',hm,w7⟩:=hN σ7 H7 n7
   refine ⟨m',hm,i + 1,σ7,H7,I7.unpinned,T.keep _ _ _ st5 fun b hb o e=>(I7.pin (b,o) (Zh_ _ (Zh_ _ (U8 hb e)))).1,fun b hb=>?_,w7⟩
   obtain ⟨o,e,d⟩:=T.obj _ _ st5 b hb
   exact (I7.pin (b,o) (Zh_ _ (Zh_ _ (U8 hb e)))).2.1
  cases f with
  | next=>obtain ⟨σ7,H7,I7,n7⟩:=q7; exact again I7 n7
  | cont=>obtain ⟨σ7,H7,I7,n7⟩:=q7; exact again I7 n7
  | brk=>obtain ⟨σ7,H7,I7,q7⟩:=q7; exact ⟨σ7,H7,I7.unpinned,q7⟩
  | ret v=>obtain ⟨x7,σ7,H7,I7,r7,q7⟩:=q7; exact ⟨x7,σ7,H7,I7.unpinned,r7,q7⟩
end
theorem P3 {K:Θf} {a:Addr} {xs:List V} {g:TG} {tb:TS} {D:Ends} {σ:St} {H:Hp} (Pv:Nat->St->Hp->Prop) (h0:Pv 0 σ H) (hl:∀i σ H,i<=xs.length->Pv i σ H->SqL K H a xs)
  (hs:∀i x σ H,xs[i]? = some x->Pv i σ H->g x σ H fun σ2 H2=>tb { D with nx:=Pv (i + 1),ct:=Pv (i + 1),bk:=D.nx } σ2 H2) (hd:∀σ H,Pv xs.length σ H->D.nx σ H) :
  ∃W:Nat->Nat->St->Hp->Prop,(∃m,W 0 m σ H)/\∀i m σ H,W i m σ H->
   ((Itl K a).stop i H/\D.nx σ H)\/((Itl K a).go i H/\∃N:St->Hp->Prop,(∀σ' H',N σ' H'->∃m',m' < m/\W (i + 1) m' σ' H')/\∀x H',(Itl K a).yld i H x H'->g x σ H' fun σ2 H2=>tb { D with nx:=N,ct:=N,bk:=D.nx } σ2 H2):=by
 refine ⟨fun i m σ H=>m=xs.length - i/\i<=xs.length/\Pv i σ H,⟨xs.length,by simp,Nat.zero_le _,h0⟩,?_⟩
 rintro i m σ H ⟨rfl,hi,p⟩
 have q:=hl i σ H hi p
 by_cases hlt:i < xs.length
 ·refine .inr ⟨⟨xs,xs[i],q,by simp [hlt]⟩,Pv (i + 1),fun σ' H' p'=>⟨xs.length - (i + 1),by omega,rfl,hlt,p'⟩,fun x H' y=>?_⟩
  obtain ⟨e,y⟩:=y
  subst e
  exact hs i x σ _ (y xs q) p
 ·have e:i=xs.length:=by omega
  subst e
  exact .inl ⟨⟨xs,q,Zd_ _⟩,hd σ H p⟩
theorem Zx {K:Θf} {a:Addr} {xs:List V} {g:TG} {tb:TS} {D:Ends} {σ:St} {H:Hp} (Pv:Nat->St->Hp->Prop) (h0:Pv 0 σ H) (hl:∀i σ H,i<=xs.length->Pv i σ H->SqT K H a xs)
  (hs:∀i x σ H,xs[i]? = some x->Pv i σ H->g x σ H fun σ2 H2=>tb { D with nx:=Pv (i + 1),ct:=Pv (i + 1),bk:=D.nx } σ2 H2) (hd:∀σ H,Pv xs.length σ H->D.nx σ H) :
  ∃W:Nat->Nat->St->Hp->Prop,(∃m,W 0 m σ H)/\∀i m σ H,W i m σ H->
   ((Itt K a).stop i H/\D.nx σ H)\/((Itt K a).go i H/\∃N:St->Hp->Prop,(∀σ' H',N σ' H'->∃m',m' < m/\W (i + 1) m' σ' H')/\∀x H',(Itt K a).yld i H x H'->g x σ H' fun σ2 H2=>tb { D with nx:=N,ct:=N,bk:=D.nx } σ2 H2):=by
 refine ⟨fun i m σ H=>m=xs.length - i/\i<=xs.length/\Pv i σ H,⟨xs.length,by simp,Nat.zero_le _,h0⟩,?_⟩
 rintro i m σ H ⟨rfl,hi,p⟩
 have q:=hl i σ H hi p
 by_cases hlt:i < xs.length
 ·refine .inr ⟨⟨xs,xs[i],q,by simp [hlt]⟩,Pv (i + 1),fun σ' H' p'=>⟨xs.length - (i + 1),by omega,rfl,hlt,p'⟩,fun x H' y=>?_⟩
  obtain ⟨e,y⟩:=y
  subst e
  exact hs i x σ _ (y xs q) p
 ·have e:i=xs.length:=by omega
  subst e
  exact .inl ⟨⟨xs,q,Zd_ _⟩,hd σ H p⟩
theorem Hg {lo:Int} {n:Nat} {g:TG} {tb:TS} {D:Ends} {σ:St} {H:Hp} (Pv:Nat->St->Hp->Prop) (h0:Pv 0 σ H)
  (hs:∀i σ H,i < n->Pv i σ H->g (.int (lo + i)) σ H fun σ2 H2=>tb { D with nx:=Pv (i + 1),ct:=Pv (i + 1),bk:=D.nx } σ2 H2) (hd:∀σ H,Pv n σ H->D.nx σ H) :
  ∃W:Nat->Nat->St->Hp->Prop,(∃m,W 0 m σ H)/\∀i m σ H,W i m σ H->
   ((Itr lo n).stop i H/\D.nx σ H)\/((Itr lo n).go i H/\∃N:St->Hp->Prop,(∀σ' H',N σ' H'->∃m',m' < m/\W (i + 1) m' σ' H')/\∀x H',(Itr lo n).yld i H x H'->g x σ H' fun σ2 H2=>tb { D with nx:=N,ct:=N,bk:=D.nx } σ2 H2):=by
 refine ⟨fun i m σ H=>m=n - i/\i<=n/\Pv i σ H,⟨n,by simp,Nat.zero_le _,h0⟩,?_⟩
 rintro i m σ H ⟨rfl,hi,p⟩
 by_cases hlt:i < n
 ·refine .inr ⟨hlt,Pv (i + 1),fun σ' H' p'=>⟨n - (i + 1),by omega,rfl,hlt,p'⟩,fun x H' y=>?_⟩
  obtain ⟨e,y⟩:=y
  subst e y
  exact hs i σ _ hlt p
 ·have e:i=n:=by omega
  subst e
  exact .inl ⟨Zd_ _,hd σ H p⟩
noncomputable abbrev R2:=V->V->Hp->VK->Prop
noncomputable def OpR (X:Cx) (f:Value->Value->Sem Value) (r:R2):Prop:=
 ∀(pins:List (Addr × Obj)) (s:Shared) (σ:St) (H:Hp) (x y:V) (v u:Value) (Q:VK),Inv X pins σ H s->RelV x v->RelV y u->r x y H Q->
  wpAny (model X.prog X.w) X.A (f v u) (EP X pins σ Q) X.xe s
noncomputable def UnR (X:Cx) (f:Value->Sem Value) (r:V->Hp->VK->Prop):Prop:=
 ∀(pins:List (Addr × Obj)) (s:Shared) (σ:St) (H:Hp) (x:V) (v:Value) (Q:VK),Inv X pins σ H s->RelV x v->r x H Q->
  wpAny (model X.prog X.w) X.A (f v) (EP X pins σ Q) X.xe s
noncomputable def P1 (X:Cx) (f:Value) (r:List V->Hp->VK->Prop):Prop:=
 ∀(pins:List (Addr × Obj)) (s:Shared) (σ:St) (H:Hp) (xs:List V) (us:List Value) (Q:VK),Inv X pins σ H s->Vals xs us->r xs H Q->
  wpAny (model X.prog X.w) X.A (call f us) (EP X pins σ Q) X.xe s
noncomputable def tOp (r:R2) (ta tb:TE):TE:=fun σ H Q=>ta σ H fun x H1=>tb σ H1 fun y H2=>r x y H2 Q
noncomputable def tUn (r:V->Hp->VK->Prop) (ta:TE):TE:=fun σ H Q=>ta σ H fun x H1=>r x H1 Q
noncomputable def rI (C:Int->Int->Prop) (g:Int->Int->V):R2:=fun x y H Q=>∃i j,x = .int i/\y = .int j/\C i j/\Q (g i j) H
noncomputable def rI0 (g:Int->Int->V):R2:=fun x y H Q=>∃i j,x = .int i/\y = .int j/\Q (g i j) H
noncomputable def rU (g:Int->V):V->Hp->VK->Prop:=fun x H Q=>∃i,x = .int i/\Q (g i) H
section
variable {X:Cx} {a b c:Expr} {ta tb tc:TE} {pos:Pos}
theorem Aca (ha:PE X a ta) (hb:PE X b tb) {pins:List (Addr × Obj)} {s:Shared} {σ:St} {H:Hp} {R:V->V->Hp->Prop} (I:Inv X pins σ H s)
  (h:ta σ H fun x H1=>tb σ H1 fun y H2=>R x y H2) {Q:Value->Shared->Prop} {f:Value->Value->Sem Value}
  (hf:∀v u s2 x y H2,Inv X pins σ H2 s2->RelV x v->RelV y u->R x y H2->wpAny (model X.prog X.w) X.A (f v u) Q X.xe s2) :
  wpAny (model X.prog X.w) X.A (eval a X.env) (fun v s₁=>wpAny (model X.prog X.w) X.A (eval b X.env) (fun u s₂=>wpAny (model X.prog X.w) X.A (f v u) Q X.xe s₂) X.xe s₁) X.xe s:=by
 refine thn (ha pins s σ H _ I h) fun v s1 ⟨x,H1,I1,r1,q1⟩=>?_
 refine thn (hb pins s1 σ H1 _ I1 q1) fun u s2 ⟨y,H2,I2,r2,q2⟩=>?_
 exact hf v u s2 x y H2 I2 r1 r2 q2
theorem B8 {op:Operator} {r:R2} (ho:OpR X (binaryOp op) r) (ha:PE X a ta) (hb:PE X b tb):PE X (.BinOp a op b pos) (tOp r ta tb):=by
 intro pins s σ H Q I h
 exact wpAny_BinOp (Aca ha hb I h fun v u s2 x y H2 I2 rx ry q=>ho pins s2 σ H2 x y v u Q I2 rx ry q)
theorem Hv {op:UnaryOp} {r:V->Hp->VK->Prop} (ho:UnR X (unaryOp op) r) (ha:PE X a ta):PE X (.UnaryOp op a pos) (tUn r ta):=by
 intro pins s σ H Q I h
 exact UnaryOp_ (thn (ha pins s σ H _ I h) fun v s1 ⟨x,H1,I1,r1,q1⟩=>ho pins s1 σ H1 x v Q I1 r1 q1)
theorem opI {f:Value->Value->Sem Value} {C:Int->Int->Prop} {g:Int->Int->Int}
  (rule:∀(i j:Int) (t u:Tok) (s:Shared) (Q:Value->Shared->Prop) (E:Value->Shared->Prop),C i j->Q (.int (g i j) s.toks) { s with toks:=s.toks + 1 }->wpAny (model X.prog X.w) X.A (f (.int i t) (.int j u)) Q E s) :
  OpR X f (rI C fun i j=>.int (g i j)):=by
 intro pins s σ H x y v u Q I rx ry h
 obtain ⟨i,j,rfl,rfl,hc,q⟩:=h
 obtain ⟨t,rfl⟩:=rx
 obtain ⟨t',rfl⟩:=ry
 exact rule i j t t' s _ _ hc ⟨.int (g i j),H,I.tok _,⟨_,rfl⟩,q⟩
theorem Aay {f:Value->Value->Sem Value} {g:Int->Int->Int}
  (rule:∀(i j:Int) (t u:Tok) (s:Shared) (Q:Value->Shared->Prop) (E:Value->Shared->Prop),Q (.int (g i j) s.toks) { s with toks:=s.toks + 1 }->wpAny (model X.prog X.w) X.A (f (.int i t) (.int j u)) Q E s) :
  OpR X f (rI0 fun i j=>.int (g i j)):=by
 intro pins s σ H x y v u Q I rx ry h
 obtain ⟨i,j,rfl,rfl,q⟩:=h
 obtain ⟨t,rfl⟩:=rx
 obtain ⟨t',rfl⟩:=ry
 exact rule i j t t' s _ _ ⟨.int (g i j),H,I.tok _,⟨_,rfl⟩,q⟩
theorem Aax {f:Value->Value->Sem Value} {g:Int->Int->Bool}
  (rule:∀(i j:Int) (t u:Tok) (s:Shared) (Q:Value->Shared->Prop) (E:Value->Shared->Prop),Q (.bool (g i j)) s->wpAny (model X.prog X.w) X.A (f (.int i t) (.int j u)) Q E s) :
  OpR X f (rI0 fun i j=>.bl (g i j)):=by
 intro pins s σ H x y v u Q I rx ry h
 obtain ⟨i,j,rfl,rfl,q⟩:=h
 obtain ⟨t,rfl⟩:=rx
 obtain ⟨t',rfl⟩:=ry
 exact rule i j t t' s _ _ ⟨.bl (g i j),H,I,rfl,q⟩
noncomputable def Afh (i j:Int):Prop:=0 < j/\j < 1073741824
noncomputable def Ad7 (i j:Int):Prop:=0<=j/\j<=1000000/\i.natAbs < 2 ^ 64
noncomputable def CMul (i j:Int):Prop:=(-(2 ^ 64) < i/\i < 2 ^ 64)\/(-(2 ^ 64) < j/\j < 2 ^ 64)
theorem CMul.ok {i j:Int} (h:CMul i j):IntMulOk i j:=by
 rcases h with ⟨h1,h2⟩ | ⟨h1,h2⟩
 ·exact .of_left (intBits_le_64 h1 h2)
 ·exact .of_right (intBits_le_64 h1 h2)
theorem Ps (k:Nat):(0:Int)<=2 ^ k:=by
 rw [two_pow_cast]
 exact Int.natCast_nonneg _
theorem op_add:OpR X (binaryOp .Add) (rI0 fun i j=>.int (i + j)):=Aay fun _ _ _ _ _ _ _ q=>add_int q
theorem op_sub:OpR X (binaryOp .Sub) (rI0 fun i j=>.int (i - j)):=Aay fun _ _ _ _ _ _ _ q=>sub_int q
theorem op_mul:OpR X (binaryOp .Mult) (rI CMul fun i j=>.int (i * j)):=opI fun _ _ _ _ _ _ _ hc q=>mul_int q hc.ok
theorem op_fdiv:OpR X (binaryOp .FloorDiv) (rI Afh fun i j=>.int (i / j)):=opI fun i j _ _ _ _ _ hc q=>by
 have h1:(0:Int) < j:=hc.1
 have h2:j < 1073741824:=hc.2
 exact floordiv_int (by omega) (by rw [Int.fdiv_eq_ediv_of_nonneg i (by omega)]; exact q) (.inl (PyProof.noPylong_small (by omega)))
theorem op_mod:OpR X (binaryOp .Mod) (rI (fun _ j=>0 < j) fun i j=>.int (i % j)):=opI fun i j _ _ _ _ _ hc q=>by
 have h1:(0:Int) < j:=hc
 exact mod_int' (by omega) (by rw [Int.fmod_eq_emod_of_nonneg i (by omega)]; exact q)
theorem op_shl:OpR X (binaryOp .LShift) (rI Ad7 fun i j=>.int (i * 2 ^ j.toNat)):=opI fun _ _ _ _ _ _ _ hc q=>lshift_int_small hc.1 hc.2.1 hc.2.2 q
theorem op_shr:OpR X (binaryOp .RShift) (rI (fun _ j=>0<=j) fun i j=>.int (i / 2 ^ j.toNat)):=opI fun i j _ _ _ _ _ hc q=>
 rshift_int hc (by rw [Int.fdiv_eq_ediv_of_nonneg i (Ps _)]; exact q)
theorem op_and:OpR X (binaryOp .BitAnd) (rI0 fun i j=>.int (Builtin.bitAnd i j)):=Aay fun _ _ _ _ _ _ _ q=>and_int q
theorem op_or:OpR X (binaryOp .BitOr) (rI0 fun i j=>.int (Builtin.bitOr i j)):=Aay fun _ _ _ _ _ _ _ q=>or_int q
theorem unI {f:Value->Sem Value} {g:Int->Int}
  (rule:∀(i:Int) (t:Tok) (s:Shared) (Q:Value->Shared->Prop) (E:Value->Shared->Prop),Q (.int (g i) s.toks) { s with toks:=s.toks + 1 }->wpAny (model X.prog X.w) X.A (f (.int i t)) Q E s) :
  UnR X f (rU fun i=>.int (g i)):=by
 intro pins s σ H x v Q I rx h
 obtain ⟨i,rfl,q⟩:=h
 obtain ⟨t,rfl⟩:=rx
 exact rule i t s _ _ ⟨.int (g i),H,I.tok _,⟨_,rfl⟩,q⟩
theorem Ze:UnR X (unaryOp .USub) (rU fun i=>.int (-i)):=unI fun _ _ _ _ _ q=>neg_int q
theorem Kt:UnR X (unaryOp .Invert) (rU fun i=>.int (Builtin.bitNot i)):=unI fun _ _ _ _ _ q=>invert_int q
end
noncomputable def Ae4:V->V->Bool
 | .non,.non=>true | .non,.int _=>true | .int _,.non=>true | .non,.bl _=>true | .bl _,.non=>true | .non,.str _=>true | .str _,.non=>true
 | .int _,.int _=>true | .bl _,.bl _=>true | .str _,.str _=>true | .byt _,.byt _=>true
 | .int _,.str _=>true | .str _,.int _=>true | .bl _,.str _=>true | .str _,.bl _=>true
 | _,_=>false
noncomputable def rEq:R2:=fun x y H Q=>Ae4 x y=true/\Q (.bl (decide (x=y))) H
noncomputable def rNe:R2:=fun x y H Q=>Ae4 x y=true/\Q (.bl (!decide (x=y))) H
theorem Du {i j:Int}:decide (V.int i=V.int j)=(i == j):=by
 rw [Bool.eq_iff_iff]
 simp
theorem Vg {i j:Bool}:decide (V.bl i=V.bl j)=(i == j):=by
 rw [Bool.eq_iff_iff]
 simp
theorem Qg {i j:Str}:decide (V.str i=V.str j)=(i == j):=by
 rw [Bool.eq_iff_iff]
 simp
theorem Qf {i j:Array UInt8}:decide (V.byt i=V.byt j)=(i.toList == j.toList):=by
 rw [Bool.eq_iff_iff]
 cases i
 cases j
 simp
section
variable {X:Cx} {a b c:Expr} {ta tb tc:TE} {pos:Pos}
theorem E8 {pins:List (Addr × Obj)} {σ:St} {H:Hp} {s:Shared} {Q:VK} {k k':Bool} (I:Inv X pins σ H s) (q:Q (.bl k) H) (e:k=k'):EP X pins σ Q (.bool k') s:=by
 subst e
 exact ⟨.bl k,H,I,rfl,q⟩
theorem op_eq:OpR X (compareOp .Eq) rEq:=by
 intro pins s σ H x y v u Q I rx ry h
 obtain ⟨hs,q⟩:=h
 cases x with
 | non=>
  cases rx
  cases y with
  | non=>cases ry; exact PySem.EqNone.eq_none_none (E8 I q (by simp))
  | bl j=>cases ry; exact PySem.EqNone.eq_none_bool (E8 I q (by simp))
  | int j=>obtain ⟨t',rfl⟩:=ry; exact PySem.EqNone.eq_none_int (E8 I q (by simp))
  | str j=>obtain ⟨t',rfl⟩:=ry; exact PySem.EqNone.eq_none_str (E8 I q (by simp))
  | _=>exact absurd (show false=true from hs) Zf_
 | bl i=>
  cases rx
  cases y with
  | non=>cases ry; exact PySem.EqNone.eq_bool_none (E8 I q (by simp))
  | bl j=>cases ry; exact eq_bool (E8 I q Vg)
  | str j=>obtain ⟨t',rfl⟩:=ry; exact PySem.EqMixed.eq_bool_str (E8 I q (by simp))
  | _=>exact absurd (show false=true from hs) Zf_
 | int i=>
  obtain ⟨t,rfl⟩:=rx
  cases y with
  | non=>cases ry; exact PySem.EqNone.eq_int_none (E8 I q (by simp))
  | int j=>obtain ⟨t',rfl⟩:=ry; exact eq_int (E8 I q Du)
  | str j=>obtain ⟨t',rfl⟩:=ry; exact PySem.EqMixed.eq_int_str (E8 I q (by simp))
  | _=>exact absurd (show false=true from hs) Zf_
 | str i=>
  obtain ⟨t,rfl⟩:=rx
  cases y with
  | non=>cases ry; exact PySem.EqNone.eq_str_none (E8 I q (by simp))
  | bl j=>cases ry; exact PySem.EqMixed.eq_str_bool (E8 I q (by simp))
  | int j=>obtain ⟨t',rfl⟩:=ry; exact PySem.EqMixed.eq_str_int (E8 I q (by simp))
  | str j=>obtain ⟨t',rfl⟩:=ry; exact eq_str (E8 I q Qg)
  | _=>exact absurd (show false=true from hs) Zf_
 | byt i=>
  obtain ⟨t,rfl⟩:=rx
  cases y with
  | byt j=>obtain ⟨t',rfl⟩:=ry; exact PySem.W.eq_bytes (E8 I q Qf)
  | _=>exact absurd (show false=true from hs) Zf_
 | _=>cases y <;> exact absurd (show false=true from hs) Zf_
theorem op_ne:OpR X (compareOp .NotEq) rNe:=by
 intro pins s σ H x y v u Q I rx ry h
 obtain ⟨hs,q⟩:=h
 cases x with
 | non=>
  cases rx
  cases y with
  | non=>cases ry; exact PySem.EqNone.ne_none_none (E8 I q (by simp))
  | bl j=>cases ry; exact PySem.EqNone.ne_none_bool (E8 I q (by simp))
  | int j=>obtain ⟨t',rfl⟩:=ry; exact PySem.EqNone.ne_none_int (E8 I q (by simp))
  | str j=>obtain ⟨t',rfl⟩:=ry; exact PySem.EqNone.ne_none_str (E8 I q (by simp))
  | _=>exact absurd (show false=true from hs) Zf_
 | bl i=>
  cases rx
  cases y with
  | non=>cases ry; exact PySem.EqNone.ne_bool_none (E8 I q (by simp))
  | bl j=>cases ry; exact ne_bool (E8 I q (congrArg not Vg))
  | str j=>obtain ⟨t',rfl⟩:=ry; exact PySem.EqMixed.ne_bool_str (E8 I q (by simp))
  | _=>exact absurd (show false=true from hs) Zf_
 | int i=>
  obtain ⟨t,rfl⟩:=rx
  cases y with
  | non=>cases ry; exact PySem.EqNone.ne_int_none (E8 I q (by simp))
  | int j=>obtain ⟨t',rfl⟩:=ry; exact ne_int (E8 I q (congrArg not Du))
  | str j=>obtain ⟨t',rfl⟩:=ry; exact PySem.EqMixed.ne_int_str (E8 I q (by simp))
  | _=>exact absurd (show false=true from hs) Zf_
 | str i=>
  obtain ⟨t,rfl⟩:=rx
  cases y with
  | non=>cases ry; exact PySem.EqNone.ne_str_none (E8 I q (by simp))
  | bl j=>cases ry; exact PySem.EqMixed.ne_str_bool (E8 I q (by simp))
  | int j=>obtain ⟨t',rfl⟩:=ry; exact PySem.EqMixed.ne_str_int (E8 I q (by simp))
  | str j=>obtain ⟨t',rfl⟩:=ry; exact ne_str (E8 I q (congrArg not Qg))
  | _=>exact absurd (show false=true from hs) Zf_
 | byt i=>
  obtain ⟨t,rfl⟩:=rx
  cases y with
  | byt j=>obtain ⟨t',rfl⟩:=ry; exact PySem.W.ne_bytes (E8 I q (congrArg not Qf))
  | _=>exact absurd (show false=true from hs) Zf_
 | _=>cases y <;> exact absurd (show false=true from hs) Zf_
theorem op_lt:OpR X (compareOp .Lt) (rI0 fun i j=>.bl (decide (i < j))):=Aax fun _ _ _ _ _ _ _ q=>lt_int q
theorem op_le:OpR X (compareOp .LtE) (rI0 fun i j=>.bl (decide (i<=j))):=Aax fun _ _ _ _ _ _ _ q=>le_int q
theorem op_gt:OpR X (compareOp .Gt) (rI0 fun i j=>.bl (decide (j < i))):=Aax fun _ _ _ _ _ _ _ q=>gt_int q
theorem op_ge:OpR X (compareOp .GtE) (rI0 fun i j=>.bl (decide (j<=i))):=Aax fun _ _ _ _ _ _ _ q=>ge_int q
theorem Tq:OpR X (compareOp .In) (fun x y H Q=>∃i j,x = .str i/\y = .str j/\Q (.bl (!(Builtin.Str.occurrences j i 0 j.length 1).isEmpty)) H):=by
 intro pins s σ H x y v u Q I rx ry h
 obtain ⟨i,j,rfl,rfl,q⟩:=h
 obtain ⟨t,rfl⟩:=rx
 obtain ⟨t',rfl⟩:=ry
 exact in_str (E8 I q rfl)
theorem Ab:OpR X (compareOp .Is) (fun x y H Q=>y = .non/\Q (.bl (decide (x = .non))) H):=by
 intro pins s σ H x y v u Q I rx ry h
 obtain ⟨rfl,q⟩:=h
 cases ry
 refine is_none_gen (E8 I q ?_)
 cases x <;> first
  | (cases rx; rfl)
  | (obtain ⟨t,rfl⟩:=rx; rfl)
theorem Aa0:OpR X (compareOp .IsNot) (fun x y H Q=>y = .non/\Q (.bl (!decide (x = .non))) H):=by
 intro pins s σ H x y v u Q I rx ry h
 obtain ⟨rfl,q⟩:=h
 cases ry
 refine isnot_none_gen (E8 I q ?_)
 cases x <;> first
  | (cases rx; rfl)
  | (obtain ⟨t,rfl⟩:=rx; rfl)
theorem D0 (b:Expr) {op:CmpOp} (h:op≠.In:=by decide) (h2:op≠.NotIn:=by decide):behindInMarks op b=false:=by
 have e1:(op == CmpOp.In)=false:=by cases op <;> first | rfl | exact absurd rfl h
 have e2:(op == CmpOp.NotIn)=false:=by cases op <;> first | rfl | exact absurd rfl h2
 cases b <;> simp [behindInMarks,e1,e2]
theorem N4 {op:CmpOp} {r:R2} (ho:OpR X (compareOp op) r) (ha:PE X a ta) (hb:PE X b tb) (hm:behindInMarks op b=false):PE X (.Compare a [op] [b] pos) (tOp r ta tb):=by
 intro pins s σ H Q I h
 exact wpAny_Compare1 (Aca ha hb I h fun v u s2 x y H2 I2 rx ry q=>ho pins s2 σ H2 x y v u Q I2 rx ry q) hm
noncomputable def Afd (t:TE):TT:=fun σ H Q=>t σ H fun x H'=>∃k,x = .bl k/\Q k H'
theorem C5 {op:CmpOp} {r:R2} (ho:OpR X (compareOp op) r) (ha:PE X a ta) (hb:PE X b tb) (hm:behindInMarks op b=false):PT X (.Compare a [op] [b] pos) (Afd (tOp r ta tb)):=by
 intro pins s σ H Q I h
 refine wpAny_isTrue_Compare1 (thn (ha pins s σ H _ I h) fun v s1 ⟨x,H1,I1,r1,q1⟩=>thn (hb pins s1 σ H1 _ I1 q1) fun u s2 ⟨y,H2,I2,r2,q2⟩=>
  thn (ho pins s2 σ H2 x y v u _ I2 r1 r2 q2) fun c s3 ⟨z,H3,I3,r3,k,e,q3⟩=>?_) hm
 subst e
 cases r3
 exact wpAny_truthy_bool ⟨H3,I3,q3⟩
theorem Cf:(sizeLine:Nat) < 2 ^ 63:=by rw [sizeLine_eq]; decide
theorem C1:OpR X (binaryOp .Add) (fun x y H Q=>∃i j,x = .str i/\y = .str j/\i.length + j.length<=sizeLine/\Q (.str (i++j)) H):=by
 intro pins s σ H x y v u Q I rx ry h
 obtain ⟨i,j,rfl,rfl,hz,q⟩:=h
 obtain ⟨t,rfl⟩:=rx
 obtain ⟨t',rfl⟩:=ry
 exact add_str (fun t' tk=>⟨.str (i++j),H,I.tok _,⟨_,rfl⟩,q⟩) hz
theorem V6 {x:V} {us:List Value} (r:Vals [x] us):∃u,us=[u]/\RelV x u:=by
 cases r with
 | cons r1 r2=>cases r2; exact ⟨_,rfl,r1⟩
theorem Ru {x y:V} {us:List Value} (r:Vals [x,y] us):∃u w',us=[u,w']/\RelV x u/\RelV y w':=by
 cases r with
 | cons r1 r2=>
  cases r2 with
  | cons r3 r4=>cases r4; exact ⟨_,_,rfl,r1,r3⟩
theorem S8:P1 X (.type "int") (fun xs H Q=>(∃i,xs=[.int i]/\Q (.int i) H)\/∃k,xs=[.bl k]/\Q (.int (if k then 1 else 0)) H):=by
 intro pins s σ H xs us Q I r h
 rcases h with ⟨i,rfl,q⟩ | ⟨k,rfl,q⟩
 ·obtain ⟨u,rfl,t,rfl⟩:=V6 r
  exact call_int_int ⟨.int i,H,I,⟨_,rfl⟩,q⟩
 ·obtain ⟨u,rfl,r1⟩:=V6 r
  cases r1
  exact call_int_bool ⟨.int (if k then 1 else 0),H,I.tok _,⟨_,rfl⟩,q⟩
theorem U5:P1 X (.type "str") (fun xs H Q=>∃i,xs=[.int i]/\i.natAbs.log2 < 1920/\Q (.str (toString i)) H):=by
 intro pins s σ H xs us Q I r h
 obtain ⟨i,rfl,hz,q⟩:=h
 obtain ⟨u,rfl,t,rfl⟩:=V6 r
 exact PySem.P.str_of_int hz ⟨.str _,H,I.tok _,⟨_,rfl⟩,q⟩
noncomputable def Afj (K:Θf) (x:V) (H:Hp) (n:Nat):Prop:=
 match x with
 | .str y=>y.length<=sizeLine/\n=y.length
 | .byt y=>y.size<=sizeLine/\n=y.size
 | .ref p=>(∃xs,SqL K H p xs/\n=xs.length)\/∃xs,SqT K H p xs/\n=xs.length
 | _=>False
theorem Uz:P1 X (.builtin "len") (fun xs H Q=>∃x n,xs=[x]/\Afj X.K x H n/\Q (.int n) H):=by
 intro pins s σ H xs us Q I r h
 obtain ⟨x,n,rfl,e,q⟩:=h
 obtain ⟨u,rfl,rx⟩:=V6 r
 have hl:=Cf
 have hs:sizeLine=16777216:=sizeLine_eq
 cases x with
 | str y=>
  obtain ⟨t,rfl⟩:=rx
  obtain ⟨hy,e'⟩:y.length<=sizeLine/\n=y.length:=e
  subst e'
  exact len_str (by omega) ⟨.int _,H,I.tok _,⟨_,rfl⟩,q⟩
 | byt y=>
  obtain ⟨t,rfl⟩:=rx
  obtain ⟨hy,e'⟩:y.size<=sizeLine/\n=y.size:=e
  subst e'
  exact PySem.W.len_bytes (by omega) ⟨.int _,H,I.tok _,⟨_,rfl⟩,q⟩
 | ref p=>
  cases rx
  have e':(∃xs,SqL X.K H p xs/\n=xs.length)\/∃xs,SqT X.K H p xs/\n=xs.length:=e
  rcases e' with ⟨xs,hx,e'⟩ | ⟨xs,hx,e'⟩
  ·subst e'
   obtain ⟨its,r',pl,hz⟩:=I.list hx
   have hlen:=r'.length
   exact Calls.call_len_list pl.isList (by simp only [List.size_toArray]; omega) ⟨.int xs.length,H,I.tok _,⟨_,by simp only [List.size_toArray]; rw [hlen]⟩,q⟩
  ·subst e'
   obtain ⟨its,r',pl,hz⟩:=I.tuple hx
   have hlen:=r'.length
   exact len_tuple pl (by simp only [List.size_toArray]; omega) ⟨.int xs.length,H,I.tok _,⟨_,by simp only [List.size_toArray]; rw [hlen]⟩,q⟩
 | _=>exact (show False from e).elim
end
structure ObjM (h:Heap) (x dx C:Addr) (mA:Str->Option Value):Prop where
 obj:h.get? x=some (PySem.W.instObj C dx)
 ns:h.Ns1 dx mA
 ne:dx≠x
theorem Ho {h:Heap} {dx:Addr} {mA:Str->Option Value} (n:h.Ns1 dx mA):∃od,h.get? dx=some od/\∀name,PySem.W.lookIn name od=some (mA name):=by
 obtain ⟨o,es,ep,ho,hd,hk,_,hm⟩:=n
 refine ⟨o,ho,fun name=>?_⟩
 have e:=hm name
 unfold nsFind findBy at e
 rw [<-Array.find?_toList] at e
 unfold PySem.W.lookIn
 rw [hd]
 dsimp only
 split
 ·rename_i y q
  rw [q] at e
  exact congrArg some e
 ·rename_i q
  rw [q] at e
  have a:es.toList.any (·.refKey)=false:=by
   rw [List.any_eq_false]
   intro y hy
   obtain ⟨z,t,hkey⟩:=hk y (Array.mem_toList_iff.mp hy)
   simp [DictEntry.refKey,hkey]
  have a':¬es.toList.any (·.refKey)=true:=by rw [a]; exact Zf_
  rw [if_neg a']
  exact congrArg some e
theorem ObjM.look {h:Heap} {x dx C:Addr} {mA:Str->Option Value} (I:ObjM h x dx C mA):∃od,PySem.W.InstAt h x (PySem.W.instObj C dx) C (some od)/\∀name,PySem.W.lookIn name od=some (mA name):=
 let ⟨od,ho,hl⟩:=Ho I.ns
 ⟨od,⟨I.obj,rfl,rfl,ho⟩,hl⟩
section
variable {prog:Program} {w:World} {A:Around} {E:Value->Shared->Prop} {s:Shared} {K:Θf} {x dx C f:Addr} {mA:Str->Option Value} {name:Str} {v:Value}
theorem Zz {expr:Bool} {Q:Value->Shared->Prop} (X:K.In s.heap) (I:ObjM s.heap x dx C mA) (hg:PySem.W.plainGet K C name=true) (hh:PySem.W.hasDictIn K C=true)
  (ha:PySem.W.findIn K (.ref C) name=some none) (hv:mA name=some v) (hv':PySem.W.handedIn v=true) (h:Q v { s with toks:=s.toks + 1 }) :
  wpAny (model prog w) A (getAttr (.ref x) name expr) Q E s:=by
 obtain ⟨od,J,hl⟩:=I.look
 exact PySem.W.get_value X J (PySem.W.plainGet_of hg).1 (PySem.W.findObj_own hh ha rfl (by rw [hl,hv])) hv' h
theorem Vq {pl:Sem Bool} {Q:Value × List Value->Shared->Prop} (X:K.In s.heap) (I:ObjM s.heap x dx C mA) (hg:PySem.W.plainGet K C name=true)
  (hf:PySem.W.findIn K (.ref C) name=some (some (.ref f))) (ht:PySem.W.isFn K (.ref f)=true) (hv:mA name=none) (h:Q (.ref f,[.ref x]) s) :
  wpAny (model prog w) A (getMethod (.ref x) name pl) Q E s:=by
 obtain ⟨od,J,hl⟩:=I.look
 exact PySem.W.method_fn X J (PySem.W.plainGet_of hg).1 (PySem.W.plainGet_of hg).2 hf (beq_iff_eq.mp ht) (by show (PySem.W.lookIn name od).map (·.isSome)=some false; rw [hl,hv]; rfl) h
theorem Abh {ns:List Str} {Q:Unit->Shared->Prop} (X:K.In s.heap) (I:ObjM s.heap x dx C mA)
  (hs:PySem.W.findIn K (.ref C) "__setattr__" = some (some (.builtin "object.__setattr__"))) (hp:PySem.W.plainOver K C=true) (ht:PySem.W.takerIn K C name=some none) (hh:PySem.W.hasDictIn K C=true)
  (hw:PySem.Within mA ns) (hsz:ns.length<=sizeLine)
  (h:∀h',ObjM h' x dx C (fun y=>if y=name then some v else mA y)->Heap.SameBut dx s.heap h'->Q () { s with heap:=h',toks:=s.toks + 2 }) :
  wpAny (model prog w) A (setAttr (.ref x) name v) Q E s:=by
 obtain ⟨od,J,hl⟩:=I.look
 refine PySem.W.set_plain X J hs (PySem.W.osa_open (s:={ s with toks:=s.toks + 1 }) (r:=none) X J hp ht fun b=>?_)
 obtain ⟨cd,hc,hd'⟩:=PySem.W.any_some hh
 have hx:s.heap.get? x=some ⟨.ref C,some dx,.plain,#[]⟩:=I.obj
 refine Za_ (Zb_ (Za_ (Za_ (wpAny_loadPart hx (Za_ (PySem.W.Looks.here (s:={ s with toks:=s.toks + 1 }) (PySem.W.looks_clsIn X hc) ?_))))))
 rw [hd']
 refine Zb_ (a:=some dx) (Za_ (Zb_ (Za_ ?_)))
 refine wpAny_nsSet1 (s:={ s with toks:=s.toks + 1 }) I.ns fun h' hn2 hs2=>?_
 obtain ⟨oD,esD,epD,hoD,hdD,hcD⟩:=hn2.count (PySem.Within.cons name v hw)
 refine Za_ (wpAny_lookBehind hoD (by rw [hdD]; exact pastItsLine_dict (Zo_ hcD (by rw [ZA]; omega))) ?_)
 exact Zb_ (h _ ⟨(hs2.2 _ (Ne.symm I.ne)).trans I.obj,hn2,I.ne⟩ hs2)
theorem Lv {R:Result->Shared->Prop} {vs:List Value} {kw:List (Str × Value)} (X:K.In s.heap) (hm:PySem.W.makesIn K C=true)
  (hi:PySem.W.findIn K (.ref C) "__init__" = some (some (.ref f))) (hf:PySem.W.typeIn K (.ref f)=some (.type "function"))
  (h:codeAny (model prog w) (A.under (.builtin "type.__call__" ⟨.ref C :: vs,kw⟩)) (.call (.ref f) ⟨.ref (s.heap.objs.size + 1) :: vs,kw⟩) (PySem.W.InitBack (s.heap.objs.size + 1) R)
   { s with heap:=(s.heap.push PySem.W.emptyDict).push (PySem.W.instObj C s.heap.objs.size) }) :
  codeAny (model prog w) A (.call (.ref C) ⟨vs,kw⟩) R s:=by
 obtain ⟨hh,g,d,t,os⟩:=s
 exact PySem.W.make_core (PySem.W.makes_of X hm) (PySem.W.looks_findIn X hi) (fun self=>PySem.W.bind_fn X self hf) (.inl rfl) h
end
noncomputable def W7 (f:Str) (v:V):List (Str × V)->List (Str × V)
 | []=>[(f,v)]
 | (g,x) :: r=>if g=f then (g,v) :: r else (g,x) :: W7 f v r
theorem Dh (f g:Str) (v:V):∀fs:List (Str × V),(W7 f v fs).lookup g=if g=f then some v else fs.lookup g
 | []=>by
  show List.lookup g [(f,v)]=_
  by_cases h:g=f
  ·have hb:(g == f)=true:=beq_iff_eq.mpr h
   simp only [List.lookup,hb,if_pos h]
  ·have hb:(g == f)=false:=beq_eq_false_iff_ne.mpr h
   simp only [List.lookup,hb,if_neg h]
 | (k,x) :: r=>by
  have ih:=Dh f g v r
  rw [show W7 f v ((k,x) :: r)=(if k=f then (k,v) :: r else (k,x) :: W7 f v r) from rfl]
  by_cases hk:k=f
  ·rw [if_pos hk]
   by_cases h:g=k
   ·have hb:(g == k)=true:=beq_iff_eq.mpr h
    simp only [List.lookup,hb,if_pos (h.trans hk)]
   ·have hb:(g == k)=false:=beq_eq_false_iff_ne.mpr h
    simp only [List.lookup,hb,if_neg (fun e:g=f=>h (e.trans hk.symm))]
  ·rw [if_neg hk]
   by_cases h:g=k
   ·have hb:(g == k)=true:=beq_iff_eq.mpr h
    simp only [List.lookup,hb,if_neg (fun e:g=f=>hk (h.symm.trans e))]
   ·have hb:(g == k)=false:=beq_eq_false_iff_ne.mpr h
    simp only [List.lookup,hb]
    exact ih
theorem Ce (f:Str) (v:V):∀fs:List (Str × V),f∈(W7 f v fs).map (·.1)/\∀g,g∈fs.map (·.1)->g∈(W7 f v fs).map (·.1)
 | []=>⟨by simp [W7],fun g h=>by simp at h⟩
 | (k,x) :: r=>by
  obtain ⟨i1,i2⟩:=Ce f v r
  rw [show W7 f v ((k,x) :: r)=(if k=f then (k,v) :: r else (k,x) :: W7 f v r) from rfl]
  by_cases hk:k=f
  ·rw [if_pos hk]
   subst hk
   exact ⟨by simp,fun g h=>by simpa using h⟩
  ·rw [if_neg hk]
   refine ⟨?_,fun g h=>?_⟩
   ·rw [List.map_cons]
    exact Θd _ i1
   ·rw [List.map_cons] at h ⊢
    rcases Zg_.mp h with e | e
    ·exact Zg_.mpr (.inl e)
    ·exact Θd _ (i2 g e)
theorem Dg (f:Str) (v:V):∀fs:List (Str × V),(W7 f v fs).length<=fs.length + 1
 | []=>by simp [W7]
 | (k,x) :: r=>by
  have ih:=Dg f v r
  rw [show W7 f v ((k,x) :: r)=(if k=f then (k,v) :: r else (k,x) :: W7 f v r) from rfl]
  by_cases hk:k=f
  ·rw [if_pos hk,ZA,ZA]; omega
  ·rw [if_neg hk,ZA,ZA]; omega
theorem RelO.some_of {v:V} {o:Option Value} (r:RelO (some v) o):∃u,o=some u/\RelV v u:=by
 cases o with
 | none=>exact (show False from r).elim
 | some u=>exact ⟨u,rfl,r⟩
theorem RelO.none_of {o:Option Value} (r:RelO none o):o=none:=by
 cases o with
 | none=>rfl
 | some u=>exact (show False from r).elim
theorem So {v:V} {u:Value} (r:RelV v u):PySem.W.handedIn u=true:=by
 cases v with
 | non=>cases (show u=Value.none from r); rfl
 | bl b=>cases (show u=Value.bool b from r); rfl
 | int i=>obtain ⟨t,e⟩:=(show ∃t,u=Value.int i t from r); cases e; rfl
 | str x=>obtain ⟨t,e⟩:=(show ∃t,u=Value.str x t from r); cases e; rfl
 | byt b=>obtain ⟨t,e⟩:=(show ∃t,u=Value.bytes b t from r); cases e; rfl
 | flt b=>obtain ⟨t,e⟩:=(show ∃t,u=Value.float b t from r); cases e; rfl
 | ref a=>cases (show u=Value.ref a from r); rfl
 | ty n=>cases (show u=Value.type n from r); rfl
section
variable {P:Program} {w:World} {H H':Hp} {h h':Heap} {a C dx:Addr} {fs fs':List (Str × V)}
theorem Dw (hok:HOk P w H h) (e:H a=some (.ins C dx fs)):∃mA,ObjM h a dx C mA/\(∀f,RelO (fs.lookup f) (mA f))/\PySem.Within mA (fs.map (·.1))/\fs.length<=1000/\H dx=some (.own a):=by
 obtain ⟨d,z,ne,ob,mA,n,r,q⟩:=(show ObjOk P w H h a (.ins C dx fs) from hok a _ e)
 exact ⟨mA,⟨ob,n,ne⟩,r,q,z,d⟩
end
structure Cls (K:Θf) (C:Addr):Prop where
 pg:PySem.W.plainGet K C Str.empty=true
 hd:PySem.W.hasDictIn K C=true
 po:PySem.W.plainOver K C=true
 sa:PySem.W.findIn K (.ref C) "__setattr__" = some (some (.builtin "object.__setattr__"))
theorem Cls.get {K:Θf} {C:Addr} (c:Cls K C) (f:Str):PySem.W.plainGet K C f=true:=c.pg
noncomputable def NoAttr (K:Θf) (C:Addr) (f:Str):Prop:=PySem.W.findIn K (.ref C) f=some none
theorem NoAttr.taker {K:Θf} {C:Addr} {f:Str} (n:NoAttr K C f):PySem.W.takerIn K C f=some none:=by
 unfold PySem.W.takerIn
 rw [show PySem.W.findIn K (.ref C) f=some none from n]
 rfl
structure Meth (K:Θf) (C:Addr) (m:Str) (f:Addr):Prop where
 at_:PySem.W.findIn K (.ref C) m=some (some (.ref f))
 fn:PySem.W.isFn K (.ref f)=true
 kp:Θk K f
section
variable {X:Cx} {pins:List (Addr × Obj)} {σ:St} {H:Hp} {s:Shared} {a C dx:Addr} {fs:List (Str × V)} {f:Str} {v:V} {A:Around} {E:Value->Shared->Prop}
theorem Np {b:Bool} {Q:Value->Shared->Prop} (I:Inv X pins σ H s) (e:H a=some (.ins C dx fs)) (c:Cls X.K C) (n:NoAttr X.K C f) (l:fs.lookup f=some v)
  (h:∀u s',Inv X pins σ H s'->RelV v u->Q u s'):wpAny (model X.prog X.w) A (getAttr (.ref a) f b) Q E s:=by
 obtain ⟨mA,O,r,_,_,_⟩:=Dw I.hok e
 obtain ⟨u,hu,ru⟩:=RelO.some_of (v:=v) (o:=mA f) (by rw [<-l]; exact r f)
 exact Zz I.kIn O (c.get f) c.hd n hu (So ru) (h u _ (I.tok _) ru)
theorem Et {m:Str} {g:Addr} {pl:Sem Bool} {Q:Value × List Value->Shared->Prop} (I:Inv X pins σ H s) (e:H a=some (.ins C dx fs)) (c:Cls X.K C) (k:Meth X.K C m g) (l:fs.lookup m=none)
  (h:Q (.ref g,[.ref a]) s):wpAny (model X.prog X.w) A (getMethod (.ref a) m pl) Q E s:=by
 obtain ⟨mA,O,r,_,_,_⟩:=Dw I.hok e
 have hn:mA m=none:=RelO.none_of (by rw [<-l]; exact r m)
 exact Vq I.kIn O (c.get m) k.at_ k.fn hn h
theorem Pg {y:V} {u:Value} {Q:Unit->Shared->Prop} (I:Inv X pins σ H s) (e:H a=some (.ins C dx fs)) (c:Cls X.K C) (n:NoAttr X.K C f) (hl:fs.length < 1000) (ry:RelV y u)
  (h:∀s',Inv X pins σ (upd H a (.ins C dx (W7 f y fs))) s'->Q () s'):wpAny (model X.prog X.w) A (setAttr (.ref a) f u) Q E s:=by
 obtain ⟨mA,O,r,wi,_,ho⟩:=Dw I.hok e
 have hz:(fs.map (·.1)).length<=sizeLine:=by rw [Θl,sizeLine_eq]; omega
 refine Abh I.kIn O c.sa c.po n.taker c.hd wi hz fun h' O' sb=>h _ ?_
 have hd:∃o,h'.get? dx=some o:=let ⟨o,_,_,e',_⟩:=O'.ns; ⟨o,e'⟩
 refine I.write (x:=a) (e:=dx) (by rw [e]; exact True.intro) (.inr ho) (fun b q hb z=>(sb.2 b hb).trans z) hd ?_
 refine ⟨by rw [C8 O.ne]; exact ho,?_,O.ne,O'.obj,_,O'.ns,fun g=>?_,fun g hg=>?_⟩
 ·have:=Dg f y fs; omega
 ·show RelO ((W7 f y fs).lookup g) (if g=f then some u else mA g)
  rw [Dh]
  by_cases q:g=f
  ·rw [if_pos q,if_pos q]; exact ry
  ·rw [if_neg q,if_neg q]; exact r g
 ·by_cases q:g=f
  ·rw [q]; exact (Ce f y fs).1
  ·refine (Ce f y fs).2 g (wi g fun z=>hg ?_)
   show (if g=f then some u else mA g)=none
   rw [if_neg q]; exact z
theorem Inv.made (I:Inv X pins σ H s):Inv X pins σ (upd (upd H s.heap.objs.size (.own (s.heap.objs.size + 1))) (s.heap.objs.size + 1) (.ins C s.heap.objs.size []))
  { s with heap:=(s.heap.push PySem.W.emptyDict).push (PySem.W.instObj C s.heap.objs.size) }:=by
 have e1:(s.heap.push PySem.W.emptyDict).get? s.heap.objs.size=some PySem.W.emptyDict:=Zm_ s.heap rfl
 have e2:((s.heap.push PySem.W.emptyDict).push (PySem.W.instObj C s.heap.objs.size)).get? (s.heap.objs.size + 1)=some (PySem.W.instObj C s.heap.objs.size):=by
  have:=Zm_ (s.heap.push PySem.W.emptyDict) (o:=PySem.W.instObj C s.heap.objs.size) rfl
  rwa [Heap.size_push] at this
 have e3:(s.heap.push PySem.W.emptyDict).Ns s.heap.objs.size (fun _=>none):=⟨PySem.W.emptyDict,#[],_,e1,rfl,(fun e he=>absurd he (by simp)),fun _=>rfl⟩
 have I1:=I.laid (a:=s.heap.objs.size) (o:=.own (s.heap.objs.size + 1)) (h':=s.heap.push PySem.W.emptyDict) (t':=s.toks) (fun b u q=>Zc_ _ q) (Zd_ _) ⟨_,e1⟩
 refine I1.laid (a:=s.heap.objs.size + 1) (o:=.ins C s.heap.objs.size []) (t':=s.toks) (fun b u q=>Zc_ _ q) (Nat.le_of_eq (Heap.size_push _ _)) ?_
 have ne:s.heap.objs.size≠s.heap.objs.size + 1:=Zs_ (Nat.lt_succ_self _)
 refine ⟨by rw [C8 ne,A6],Zp_ _,ne,e2,fun _=>none,(Heap.Ns1.of_empty e3).at fun o q=>Zc_ _ q,fun _=>True.intro,fun y hy=>absurd rfl hy⟩
theorem Qb {prog:Program} {w:World} {env:Env} {e:Expr} {f:Str} {pos:Pos} {s:Shared} {Q:Value->Shared->Prop} (hb:attributeBase e f env (eval e env)=eval e env)
  (h:wpAny (model prog w) A (eval e env) (fun o s₁=>wpAny (model prog w) A (getAttr o f true) Q E s₁) E s):wpAny (model prog w) A (eval (.Attribute e f pos) env) Q E s:=
 Attribute_any_ h (by rw [arm_eval_Attribute,hb])
end
noncomputable def Ae8 (K:Θf) (ta:TE) (f:Str):TE:=fun σ H Q=>ta σ H fun x H1=>∃a C dx fs v,x = .ref a/\H1 a=some (.ins C dx fs)/\Cls K C/\NoAttr K C f/\fs.lookup f=some v/\Q v H1
noncomputable def Af0 (K:Θf) (ta tv:TE) (f:Str):TS:=fun D σ H=>tv σ H fun y H1=>ta σ H1 fun x H2=>∃a C dx fs,x = .ref a/\H2 a=some (.ins C dx fs)/\Cls K C/\NoAttr K C f/\fs.length < 1000/\
 D.nx σ (upd H2 a (.ins C dx (W7 f y fs)))
section
variable {X:Cx} {o e value:Expr} {f:Str} {pos pos' tpos:Pos} {ta tv:TE}
theorem Adf (he:PE X e ta) (hb:attributeBase e f X.env (eval e X.env)=eval e X.env):PE X (.Attribute e f pos) (Ae8 X.K ta f):=by
 intro pins s σ H Q I h
 refine Qb hb (thn (he pins s σ H _ I h) fun u s1 ⟨x,H1,I1,rx,a,C,dx,fs,v,ex,ea,c,n,l,q⟩=>?_)
 subst ex
 obtain rfl:u=Value.ref a:=rx
 exact Np I1 ea c n l fun u' s2 I2 ru=>⟨v,H1,I2,ru,q⟩
theorem Xs (ha:PE X o ta) (hv:PE X value tv) (hs:swapsWith value (some (.Attribute o f pos')) pos.line X.env=pure false):PS X (.Assign [.Attribute o f pos'] value pos) (Af0 X.K ta tv f):=by
 intro pins s σ H D I h
 refine plainObj_wpAny_Assign_Attribute (thn (hv pins s σ H _ I h) fun u s1 ⟨y,H1,I1,ry,q⟩=>thn (ha pins s1 σ H1 _ I1 q) fun ov s2 ⟨x,H2,I2,rx,a,C,dx,fs,ex,ea,c,n,l,q2⟩=>?_) hs
 subst ex
 obtain rfl:ov=Value.ref a:=rx
 exact Pg I2 ea c n l ry fun s3 I3=>⟨σ,_,I3,q2⟩
end
section
variable {X:Cx} {pins:List (Addr × Obj)} {σ:St} {H:Hp} {s:Shared} {A:Around} {E:Value->Shared->Prop} {Q:Value->Shared->Prop} {c:Value} {b:Bool}
inductive TyOf (K:Θf) (H:Hp):V->Value->Prop where
 | non:TyOf K H .non (.type "NoneType")
 | bl (x:Bool):TyOf K H (.bl x) (.type "bool")
 | int (i:Int):TyOf K H (.int i) (.type "int")
 | str (x:Str):TyOf K H (.str x) (.type "str")
 | flt (x:UInt64):TyOf K H (.flt x) (.type "float")
 | lst {a:Addr} {xs:List V} (e:H a=some (.lst xs)):TyOf K H (.ref a) (.type "list")
 | frz {a:Addr} {o:Obj} {xs:List V} (e:H a=some (.frz o (.lst xs))):TyOf K H (.ref a) (.type "list")
 | tup {a:Addr} {xs:List V} (e:H a=some (.tup xs)):TyOf K H (.ref a) (.type "tuple")
 | dK {a:Addr} {kvs:List (Key × V)} (e:H a=some (.dK kvs)):TyOf K H (.ref a) (.type "dict")
 | dT {a:Addr} {kvs:List (List Key × V)} (e:H a=some (.dT kvs)):TyOf K H (.ref a) (.type "dict")
 | ins {a C dx:Addr} {fs:List (Str × V)} (e:H a=some (.ins C dx fs)) (cl:Cls K C) (ha:PySem.W.findIn K (.ref C) "__class__" = some (some (.builtin "object.__class__")))
   (hn:PySem.W.specialIn K (.builtin "object.__class__") "__get__" = some (some (.builtin "getset_descriptor.__get__"))) (htk:PySem.W.takesIn K (.builtin "object.__class__")=some true)
   (hm:PySem.W.mroIn K C (.type "object")=some true):TyOf K H (.ref a) (.ref C)
theorem Sr {x:V} {u t:Value} (I:Inv X pins σ H s) (rx:RelV x u) (ty:TyOf X.K H x t) (e:PySem.W.kitOne X.K t c=some b) (h:∀tk,Q (.bool b) { s with toks:=tk }) :
  wpAny (model X.prog X.w) A (call (.builtin "isinstance") [u,c]) Q E s:=by
 cases ty with
 | non=>cases (show u=Value.none from rx); exact PySem.W.kia_one PySem.W.kitx_none I.kIn True.intro e (fun z=>nomatch z) h
 | bl y=>cases (show u=Value.bool y from rx); exact PySem.W.kia_one PySem.W.kitx_bool I.kIn True.intro e (fun z=>nomatch z) h
 | int i=>obtain ⟨t,q⟩:=(show ∃t,u=Value.int i t from rx); cases q; exact PySem.W.kia_one PySem.W.kitx_int I.kIn True.intro e (fun z=>nomatch z) h
 | str y=>obtain ⟨t,q⟩:=(show ∃t,u=Value.str y t from rx); cases q; exact PySem.W.kia_one PySem.W.kitx_str I.kIn True.intro e (fun z=>nomatch z) h
 | flt y=>obtain ⟨t,q⟩:=(show ∃t,u=Value.float y t from rx); cases q; exact PySem.W.kia_one PySem.W.kitx_float I.kIn True.intro e (fun z=>nomatch z) h
 | @lst a xs ea=>
  cases (show u=Value.ref a from rx)
  obtain ⟨_,_,n,_,h1⟩:=(show ObjOk X.prog X.w H s.heap a (.lst xs) from I.hok a _ ea)
  exact PySem.W.kia_one PySem.W.kitx_list I.kIn ⟨_,h1,rfl⟩ e (fun z=>nomatch z) h
 | @frz a ob xs ea=>
  cases (show u=Value.ref a from rx)
  obtain ⟨_,_,_,n,_,h1⟩:=(show ObjOk X.prog X.w H s.heap a (.frz ob (.lst xs)) from I.hok a _ ea)
  exact PySem.W.kia_one PySem.W.kitx_list I.kIn ⟨_,h1,rfl⟩ e (fun z=>nomatch z) h
 | @tup a xs ea=>
  cases (show u=Value.ref a from rx)
  obtain ⟨_,_,_,p⟩:=(show ObjOk X.prog X.w H s.heap a (.tup xs) from I.hok a _ ea)
  obtain ⟨o,h1,h2,_⟩:=p
  exact PySem.W.kia_one PySem.W.kitx_tuple I.kIn ⟨o,h1,h2⟩ e (fun z=>nomatch z) h
 | @dK a kvs ea=>
  cases (show u=Value.ref a from rx)
  obtain ⟨_,_,vs,_,p⟩:=(show ObjOk X.prog X.w H s.heap a (.dK kvs) from I.hok a _ ea)
  obtain ⟨o,es,ep,h1,h2,_⟩:=p
  exact PySem.W.kia_one PySem.W.kitx_dict I.kIn ⟨o,h1,h2.1⟩ e (fun z=>nomatch z) h
 | @dT a kvs ea=>
  cases (show u=Value.ref a from rx)
  obtain ⟨_,_,xs,_,o,es,ep,h1,h2,_⟩:=(show ObjOk X.prog X.w H s.heap a (.dT kvs) from I.hok a _ ea)
  exact PySem.W.kia_one PySem.W.kitx_dict I.kIn ⟨o,h1,h2.1⟩ e (fun z=>nomatch z) h
 | @ins a C dx fs ea cl ha hn htk hm=>
  cases (show u=Value.ref a from rx)
  obtain ⟨mA,O,_⟩:=Dw I.hok ea
  obtain ⟨od,J,_⟩:=O.look
  exact PySem.W.kia_one (PySem.W.kitx_own (cl.get _) cl.hd ha hn htk hm) I.kIn J e (fun z=>nomatch z) h
end
structure Room (k:Nat) (A:Around):Prop where
 hd:A.handled=none
 dp:A.depth + 3 * k + 5 < recursionLimit
 un:A.units + 16 * k + 200 < cLine
theorem Room.mono {j k:Nat} {A:Around} (r:Room k A) (h:j<=k):Room j A:=⟨r.hd,by have:=r.dp; omega,by have:=r.un; omega⟩
theorem Room.deeper {k:Nat} {A:Around} (r:Room (k + 1) A) (env:Env):Room k (A.deeper env):=
 ⟨r.hd,by have:=r.dp; show A.depth + 1 + 3 * k + 5 < _; omega,by have:=r.un; show A.units + 3 + 16 * k + 200 < _; omega⟩
theorem Nx {A:Around} {C:Addr} {us:List Value} {kw:List (Str × Value)}:(A.under (.builtin "type.__call__" ⟨.ref C :: us,kw⟩)).depth=A.depth + 1:=by
 first | rfl | simp [Around.under,Code.weight,Code.isCreation,Code.isGuard,Code.isCaller,Code.frames,Code.isFrame,guardIds]
theorem Ny {A:Around} {C:Addr} {us:List Value} {kw:List (Str × Value)}:(A.under (.builtin "type.__call__" ⟨.ref C :: us,kw⟩)).units=A.units + 1:=by
 first | rfl | simp [Around.under,Code.cUnits,Code.frames,Code.isFrame]
theorem Room.make {k:Nat} {A:Around} (r:Room (k + 1) A) (C:Addr) (us:List Value) (kw:List (Str × Value)):Room k (A.under (.builtin "type.__call__" ⟨.ref C :: us,kw⟩)):=
 ⟨r.hd,by have:=r.dp; rw [Nx]; omega,by have:=r.un; rw [Ny]; omega⟩
theorem Room.depth {k:Nat} {A:Around} (r:Room k A):A.depth < recursionLimit:=by have:=r.dp; omega
theorem Room.units {k:Nat} {A:Around} (r:Room k A):A.units + 64 < cLine:=by have:=r.un; omega
noncomputable def Abn:TA:=fun _ H Q=>Q [] H
noncomputable def Ab4 (ta:TE) (tr:TA):TA:=fun σ H Q=>ta σ H fun x H1=>tr σ H1 fun xs H2=>Q (x :: xs) H2
section
variable {X:Cx} {e:Expr} {es:List Expr} {te:TE} {t:TA} {pos:Pos}
theorem A7:PA X [] Abn:=fun _ _ _ _ H Q I h=>Calls.spliced_nil ⟨[],H,I,.nil,h⟩
theorem A0 (ha:PE X e te) (hr:PA X es t) (hs:starEach (e :: es) X.env=(false,eval e X.env) :: starEach es X.env:=by rfl):PA X (e :: es) (Ab4 te t):=by
 intro pos pins s σ H Q I h
 rw [hs]
 show wpAny _ _ (spliced ((false,eval e X.env) :: backTo pos (starEach es X.env))) _ _ s
 refine Calls.spliced_cons (thn (ha pins s σ H _ I h) fun u s1 ⟨x,H1,I1,r1,q1⟩=>?_)
 exact thn (hr pos pins s1 σ H1 _ I1 q1) fun us s2 ⟨xs,H2,I2,r2,q2⟩=>⟨x :: xs,H2,I2,.cons r1 r2,q2⟩
noncomputable def Age (t:TA):TE:=fun σ H Q=>t σ H fun xs H1=>xs.length<=sizeLine/\∀p,H1 p=none->Q (.ref p) (upd H1 p (.tup xs))
noncomputable def Af9 (t:TA):TE:=fun σ H Q=>t σ H fun xs H1=>xs.length<=sizeLine/\∀p,H1 p=none->Q (.ref p) (upd H1 p (.lst xs))
theorem G3 {x1} (h:PA X es t):PE X (.Tuple es x1 pos) (Age t):=by
 intro pins s σ H Q I hq
 refine wpAny_Tuple_spliced (thn (h pos pins s σ H _ I hq) fun us s1 ⟨xs,H1,I1,r,z,q⟩=>⟨by rw [<-r.length]; exact z,?_⟩)
 have hf:H1 s1.heap.objs.size=none:=I1.hok.fresh (Zd_ _)
 refine ⟨.ref s1.heap.objs.size,upd H1 s1.heap.objs.size (.tup xs),I1.laid (t':=s1.toks) (fun b u e=>Zc_ _ e) (Zd_ _) ?_,rfl,q _ hf⟩
 exact ⟨z,us,r,⟨_,Zm_ _ rfl,rfl,_,rfl⟩⟩
theorem D8 (h:PA X es t):PE X (.List es pos) (Af9 t):=by
 intro pins s σ H Q I hq
 refine wpAny_List_spliced (thn (h pos pins s σ H _ I hq) fun us s1 ⟨xs,H1,I1,r,z,q⟩=>⟨by rw [<-r.length]; exact z,?_⟩)
 have hf:H1 s1.heap.objs.size=none:=I1.hok.fresh (Zd_ _)
 refine ⟨.ref s1.heap.objs.size,upd H1 s1.heap.objs.size (.lst xs),I1.laid (t':=s1.toks) (fun b u e=>Zc_ _ e) (Zd_ _) ?_,rfl,q _ hf⟩
 exact ⟨z,us,0,r,Zm_ _ rfl⟩
end
noncomputable abbrev Sp:=List V->Hp->VK->XK->Prop
noncomputable abbrev CXT:=List Env->Hp->Shared->XK->Value->Shared->Prop
structure Env0 (P:Program) (w:World) (K:Θf) (mg:Str->Option Value) (base:Heap) (A:Around) (outer:List Env) (s:Shared) (H:Hp):Prop where
 frames:A.frames=some outer
 mod:Mod K mg base
 bs:∀b o,base.get? b=some o->s.heap.get? b=some o/\H b=none
 bsz:base.objs.size<=s.heap.objs.size
 funs:s.heap.FunFrames base outer
 frf:∀b∈frs outer,H b=none
 hok:HOk P w H s.heap
 bare:AllBare s.gens
noncomputable def CE (outer:List Env) (P:Program) (w:World) (H:Hp) (s:Shared) (Q:VK) (u:Value) (s':Shared):Prop:=
 ∃v H',s'.os=s.os/\AllBare s'.gens/\Un (frs outer) [] H H' s.heap s'.heap/\HOk P w H' s'.heap/\RelV v u/\Q v H'
noncomputable def CR (CX:CXT) (outer:List Env) (P:Program) (w:World) (H:Hp) (s:Shared) (Q:VK) (E:XK) (r:Result) (s':Shared):Prop:=
 match r with
 | .ok (.ret u)=>CE outer P w H s Q u s'
 | .ok _=>False
 | .error e=>CX outer H s E e s'
structure FnOk (P:Program) (w:World) (K:Θf) (mg:Str->Option Value) (base:Heap) (CX:CXT) (k:Nat) (f:Addr) (fd:FuncData) (ps:List Str) (sp:Sp):Prop where
 len:∀vs H Q E,sp vs H Q E->vs.length=ps.length
 run:∀(A:Around) (outer:List Env) (s:Shared) (H:Hp) (args:Args) (us:List Value) (vs:List V) (Q:VK) (E:XK),Room k A->Env0 P w K mg base A outer s H->BindsTo s fd args (ps.zip us)->Vals vs us->sp vs H Q E->
  codeAny (model P w) A (.call (.ref f) args) (CR CX outer P w H s Q E) s
theorem FnOk.imp {P:Program} {w:World} {K:Θf} {mg:Str->Option Value} {base:Heap} {CX:CXT} {k:Nat} {f:Addr} {fd:FuncData} {ps:List Str} {sp sp':Sp} (F:FnOk P w K mg base CX k f fd ps sp)
  (h:∀vs H Q E,sp' vs H Q E->sp vs H Q E):FnOk P w K mg base CX k f fd ps sp':=
 ⟨fun vs H Q E q=>F.len vs H Q E (h _ _ _ _ q),fun A outer s H args us vs Q E hr he hb hv hs=>F.run A outer s H args us vs Q E hr he hb hv (h _ _ _ _ hs)⟩
theorem Env0.make {P:Program} {w:World} {K:Θf} {mg:Str->Option Value} {base:Heap} {A:Around} {outer:List Env} {s:Shared} {H:Hp} (e:Env0 P w K mg base A outer s H) (C:Addr) (us:List Value) (kw:List (Str × Value)) :
  Env0 P w K mg base (A.under (.builtin "type.__call__" ⟨.ref C :: us,kw⟩)) outer s H:=⟨by first | exact e.frames | (simpa [Around.under,Code.envs,Code.isFrame,pushEnvs] using e.frames),e.mod,e.bs,e.bsz,e.funs,e.frf,e.hok,e.bare⟩
section
variable {X:Cx} {pins:List (Addr × Obj)} {σ:St} {H:Hp} {s s':Shared}
theorem Inv.env0 (I:Inv X pins σ H s):Env0 X.prog X.w X.K X.mg X.base X.A X.stack s H:=
 ⟨I.ok.frames,I.ok.mod,I.bs,Zo_ I.ok.bsz I.sz,I.stack,I.stkFree,I.hok,I.bare⟩
theorem Inv.after {Q:VK} {u:Value} (I:Inv X pins σ H s) (h:CE X.stack X.prog X.w H s Q u s'):EP X pins σ Q u s':=by
 obtain ⟨v,H',os,bare,un,hok,r,q⟩:=h
 obtain ⟨hh,g,d,t,os'⟩:=s'
 obtain rfl:os' = s.os:=os
 exact ⟨v,H',I.call (h':=hh) (g':=g) (d':=d) (t':=t) (ch:=[]) un hok bare (fun b z=>absurd z (by simp)),r,q⟩
end
noncomputable def Ab3 (sp:Sp) (dvs:List V) (E:XK) (t:TA):TE:=fun σ H Q=>t σ H fun vs H1=>sp (vs++dvs) H1 Q E
noncomputable def Afa (C:Addr) (m:Str) (sp:Sp) (dvs:List V) (E:XK) (ta:TE) (t:TA):TE:=fun σ H Q=>ta σ H fun x H1=>∃a dx fs,x = .ref a/\H1 a=some (.ins C dx fs)/\fs.lookup m=none/\
 t σ H1 fun vs H2=>sp (x :: (vs++dvs)) H2 Q E
noncomputable def Ae9 (C:Addr) (sp:Sp) (dvs:List V) (E:XK) (t:TA):TE:=fun σ H Q=>t σ H fun vs H1=>∀x dx,H1 x=none->H1 dx=none->dx≠x->
 sp (.ref x :: (vs++dvs)) (upd (upd H1 dx (.own x)) x (.ins C dx [])) (fun v H2=>v = .non/\Q (.ref x) H2) E
noncomputable def Binds (K:Θf) (fd:FuncData) (ps:List Str) (ds:List Value):Prop:=
 ∀(s:Shared) (us:List Value),K.In s.heap->(us++ds).length=ps.length->BindsTo s fd ⟨us,[]⟩ (ps.zip (us++ds))
theorem Binds.all {K:Θf} {fd:FuncData} {ps:List Str} (h:∀us:List Value,us.length=ps.length->bindArgs fd ⟨us,[]⟩=pure (ps.zip us)):Binds K fd ps []:=fun s us _ hl=>by
 rw [List.append_nil] at hl ⊢
 exact .of_eq (h us hl)
noncomputable def U2 (CX:CXT) (X:Cx) (E:XK):Prop:=∀(pins:List (Addr × Obj)) (σ:St) (H:Hp) (s:Shared) (e:Value) (s':Shared),Inv X pins σ H s->CX X.stack H s E e s'->X.xe e s'
section
variable {X:Cx} {CX:CXT} {k:Nat} {f C:Addr} {fd:FuncData} {ps:List Str} {sp:Sp} {dvs:List V} {ds:List Value} {E:XK} {x m:Str} {p pos apos:Pos} {e o:Expr} {es:List Expr} {ta:TE} {t:TA}
theorem Yb {pins:List (Addr × Obj)} {σ:St} {H:Hp} {s:Shared} {Q:VK} {us:List Value} {vs:List V} (F:FnOk X.prog X.w X.K X.mg X.base CX k f fd ps sp) (hr:Room k X.A) (hb:Binds X.K fd ps ds) (hd:Vals dvs ds) (hx:U2 CX X E)
  (I:Inv X pins σ H s) (r:Vals vs us) (h:sp (vs++dvs) H Q E):wpAny (model X.prog X.w) X.A (call (.ref f) us) (EP X pins σ Q) X.xe s:=by
 have r2:Vals (vs++dvs) (us++ds):=r.append hd
 have hl:(us++ds).length=ps.length:=by rw [<-r2.length]; exact F.len _ _ _ _ h
 refine wpAny_call (codeAny_mono (F.run X.A X.stack s H ⟨us,[]⟩ (us++ds) (vs++dvs) Q E hr I.env0 (hb s us I.kIn hl) r2 h) fun r s' hq=>?_)
 cases r with
 | error e=>exact hx pins σ H s e s' I hq
 | ok fl=>
  cases fl with
  | ret u=>exact I.after hq
  | next=>exact False.elim hq
  | brk=>exact False.elim hq
  | cont=>exact False.elim hq
theorem C0 (F:FnOk X.prog X.w X.K X.mg X.base CX k f fd ps sp) (hr:Room k X.A) (hg:Gl X x) (hm:X.mg x=some (.ref f)) (hk:PySem.W.keepIn X.K (.ref f)=true) (hb:Binds X.K fd ps ds) (hd:Vals dvs ds) (hx:U2 CX X E)
  (ha:PA X (e :: es) t) (hdb:(x == ("__debug__":Str))=false:=by decide) (he:starEach (e :: es) X.env=(false,eval e X.env) :: starEach es X.env:=by rfl) (hpl:(backTo pos (starEach es X.env)).any (·.1)=false:=by rfl) :
  PE X (.Call (.Name x p) (e :: es) [] pos) (Ab3 sp dvs E t):=by
 intro pins s σ H Q I h
 refine wpAny_Call_Name_kw (R9 I hg hm ?_ hdb)
 refine PySem.W.callWith_K (h₀:=X.base) I.ok.mod.kin hk (thn (ha pos pins s σ H _ I h) fun us s1 ⟨vs,H1,I1,r,q⟩=>⟨I1.kIn,?_⟩) he hpl
 exact Yb F hr hb hd hx I1 r q
theorem Bf {pl:Sem Bool} (he:PE X o ta) (c:Cls X.K C) (hm:Meth X.K C m f) (F:FnOk X.prog X.w X.K X.mg X.base CX k f fd ps sp) (hr:Room k X.A) (hb:Binds X.K fd ps ds) (hd:Vals dvs ds) (hx:U2 CX X E) (ha:PA X (e :: es) t)
  (hst:starEach (e :: es) X.env=(false,eval e X.env) :: starEach es X.env:=by rfl) (hpl:(backTo pos (starEach es X.env)).any (·.1)=false:=by rfl)
  (ht:eval (.Call (.Attribute o m apos) (e :: es) [] pos) X.env=(do
   let ov <-eval o X.env
   standAt apos.atName
   let (f,first) <-holding [ov] (getMethod ov m pl)
   callWith pos f first (backTo pos (starEach (e :: es) X.env)) (backToKw pos (keywordEach [] X.env))):=by rfl) :
  PE X (.Call (.Attribute o m apos) (e :: es) [] pos) (Afa C m sp dvs E ta t):=by
 intro pins s σ H Q I h
 refine PySem.W.methodCall_KW (pl:=pl) (thn (he pins s σ H _ I h) fun u s1 ⟨x,H1,I1,rx,a,dx,fs,ex,ea,l,q⟩=>?_) ht
 subst ex
 obtain rfl:u=Value.ref a:=rx
 refine Et I1 ea c hm l ?_
 refine PySem.W.callWith_K (first:=[.ref a]) (h₀:=X.base) I.ok.mod.kin hm.kp (thn (ha pos pins s1 σ H1 _ I1 q) fun us s2 ⟨vs,H2,I2,r,q2⟩=>⟨I2.kIn,?_⟩) hst hpl
 exact Yb (us:=.ref a :: us) (vs:=.ref a :: vs) F hr hb hd hx I2 (.cons rfl r) q2
structure Mk (K:Θf) (C f:Addr):Prop where
 makes:PySem.W.makesIn K C=true
 init:PySem.W.findIn K (.ref C) "__init__" = some (some (.ref f))
 fn:PySem.W.isFn K (.ref f)=true
 kp:Θk K C
theorem Yc {pins:List (Addr × Obj)} {σ:St} {H:Hp} {s:Shared} {Q:VK} {us:List Value} {vs:List V} (M:Mk X.K C f) (F:FnOk X.prog X.w X.K X.mg X.base CX k f fd ps sp) (hr:Room (k + 1) X.A) (hb:Binds X.K fd ps ds) (hd:Vals dvs ds)
  (hx:U2 CX X E) (I:Inv X pins σ H s) (r:Vals vs us)
  (h:∀x dx,H x=none->H dx=none->dx≠x->sp (.ref x :: (vs++dvs)) (upd (upd H dx (.own x)) x (.ins C dx [])) (fun v H2=>v = .non/\Q (.ref x) H2) E) :
  wpAny (model X.prog X.w) X.A (call (.ref C) us) (EP X pins σ Q) X.xe s:=by
 have hq:=h (s.heap.objs.size + 1) s.heap.objs.size (I.hok.fresh (Nat.le_succ _)) (I.hok.fresh (Zd_ _)) (Zs_ (Nat.lt_succ_self _))
 have I2:=Inv.made (C:=C) I
 have r2:Vals (V.ref (s.heap.objs.size + 1) :: (vs++dvs)) (Value.ref (s.heap.objs.size + 1) :: (us++ds)):=.cons rfl (r.append hd)
 have hl:(Value.ref (s.heap.objs.size + 1) :: us++ds).length=ps.length:=by
  have e:=r2.length
  rw [F.len _ _ _ _ hq] at e
  exact e.symm
 refine wpAny_call (Lv (f:=f) I.kIn M.makes M.init (beq_iff_eq.mp M.fn) (codeAny_mono (F.run _ X.stack _ _ ⟨Value.ref (s.heap.objs.size + 1) :: us,[]⟩ (Value.ref (s.heap.objs.size + 1) :: (us++ds)) _ _ E (hr.make C us [])
  (I2.env0.make C us []) (hb _ (Value.ref (s.heap.objs.size + 1) :: us) I2.kIn hl) r2 hq) fun r s' hq'=>?_))
 cases r with
 | error e=>exact hx pins σ _ _ e s' I2 hq'
 | ok fl=>
  cases fl with
  | ret u=>
   obtain ⟨v,H',I3,rv,ev,q3⟩:=I2.after hq'
   subst ev
   exact ⟨rv,⟨V.ref (s.heap.objs.size + 1),H',I3,rfl,q3⟩⟩
  | next=>exact False.elim hq'
  | brk=>exact False.elim hq'
  | cont=>exact False.elim hq'
theorem Qt (M:Mk X.K C f) (F:FnOk X.prog X.w X.K X.mg X.base CX k f fd ps sp) (hr:Room (k + 1) X.A) (hg:Gl X x) (hm:X.mg x=some (.ref C)) (hb:Binds X.K fd ps ds) (hd:Vals dvs ds) (hx:U2 CX X E)
  (ha:PA X (e :: es) t) (hdb:(x == ("__debug__":Str))=false:=by decide) (he:starEach (e :: es) X.env=(false,eval e X.env) :: starEach es X.env:=by rfl) (hpl:(backTo pos (starEach es X.env)).any (·.1)=false:=by rfl) :
  PE X (.Call (.Name x p) (e :: es) [] pos) (Ae9 C sp dvs E t):=by
 intro pins s σ H Q I h
 refine wpAny_Call_Name_kw (R9 I hg hm ?_ hdb)
 refine PySem.W.callWith_K (h₀:=X.base) I.ok.mod.kin M.kp (thn (ha pos pins s σ H _ I h) fun us s1 ⟨vs,H1,I1,r,q⟩=>⟨I1.kIn,?_⟩) he hpl
 exact Yc M F hr hb hd hx I1 r q
end
section
variable {X:Cx} {CX:CXT} {k:Nat} {f C:Addr} {fd:FuncData} {ps ks:List Str} {sp:Sp} {E:XK} {x m:Str} {p pos apos kpos:Pos} {e o:Expr} {es:List Expr} {kws:List Keyword} {te ta:TE} {t tk:TA} {nm:Option Str}
variable {g:List Value->List Value->List Value} {gV:List V->List V->List V}
end
structure FnScope (N P:List Str) (sc:Scope):Prop where
 kind:sc.kind = .function
 co:sc.isCoroutine=false
 gen:sc.isGenerator=false
 nd:N.Nodup
 pre:N.take P.length=P
 par:∀x∈P,sc.names.lookup x=some .local\/sc.names.lookup x=some .cell
 nofree:∀y∈sc.names,y.2≠.free
theorem Gq {kindOf:Str->Option NameKind} {x:Str}:∀{binds:List (Str × Value)} {m:Str->Option Value},(∀v,(x,v)∉binds)->bindL kindOf binds m x=m x
 | [],_,_=>rfl
 | (n,v) :: r,m,h=>by
  unfold bindL
  rw [Gq fun w hw=>h w (Θd _ hw)]
  split
  ·have:x≠n:=by rintro rfl; exact h v Θc
   simp [this]
  ·rfl
theorem Go {kindOf:Str->Option NameKind} {x:Str}:∀{binds:List (Str × Value)} {m:Str->Option Value},(∀v,(x,v)∉binds)->bindC kindOf binds m x=m x
 | [],_,_=>rfl
 | (n,v) :: r,m,h=>by
  unfold bindC
  rw [Go fun w hw=>h w (Θd _ hw)]
  split
  ·rfl
  ·have:x≠n:=by rintro rfl; exact h v Θc
   simp [this]
theorem Gp {kindOf:Str->Option NameKind} {x:Str} {v:Value}:∀{P:List Str} {vs:List Value} {i:Nat} {m:Str->Option Value},P.Nodup->P[i]? = some x->vs[i]? = some v->kindOf x=some .local->
  bindL kindOf (P.zip vs) m x=some v
 | [],_,_,_,_,h,_,_=>by simp at h
 | _ :: _,[],_,_,_,_,h,_=>by simp at h
 | p :: P,w :: vs,0,m,nd,h1,h2,hk=>by
  simp at h1 h2; subst h1; subst h2
  show bindL kindOf ((p,w) :: P.zip vs) m p=_
  unfold bindL
  rw [Gq fun v hv=>(List.nodup_cons.mp nd).1 (List.of_mem_zip hv).1,if_pos hk]
  simp
 | p :: P,w :: vs,i + 1,m,nd,h1,h2,hk=>by
  show bindL kindOf ((p,w) :: P.zip vs) m x=_
  unfold bindL
  exact Gp (i:=i) (List.nodup_cons.mp nd).2 (by simpa using h1) (by simpa using h2) hk
theorem Gn {kindOf:Str->Option NameKind} {x:Str} {v:Value}:∀{P:List Str} {vs:List Value} {i:Nat} {m:Str->Option Value},P.Nodup->P[i]? = some x->vs[i]? = some v->kindOf x≠some .local->
  bindC kindOf (P.zip vs) m x=some v
 | [],_,_,_,_,h,_,_=>by simp at h
 | _ :: _,[],_,_,_,_,h,_=>by simp at h
 | p :: P,w :: vs,0,m,nd,h1,h2,hk=>by
  simp at h1 h2; subst h1; subst h2
  show bindC kindOf ((p,w) :: P.zip vs) m p=_
  unfold bindC
  rw [Go fun v hv=>(List.nodup_cons.mp nd).1 (List.of_mem_zip hv).1,if_neg hk]
  simp
 | p :: P,w :: vs,i + 1,m,nd,h1,h2,hk=>by
  show bindC kindOf ((p,w) :: P.zip vs) m x=_
  unfold bindC
  exact Gn (i:=i) (List.nodup_cons.mp nd).2 (by simpa using h1) (by simpa using h2) hk
noncomputable def S5 (N:List Str) (vs:List V):St:=vs.map some++List.replicate (N.length - vs.length) none
noncomputable def T0 (CX:CXT) (P:Program) (w:World) (K:Θf) (mg:Str->Option Value) (base:Heap) (N:List Str) (qual:Str) (scope:Scope) (f:Addr) (cd:Value) (A:Around) (outer:List Env) (s:Shared) (H:Hp) (E:XK):Cx where
 prog:=P
 w:=w
 K:=K
 mg:=mg
 base:=base
 A:=A.deeper (envOfC qual scope s.heap.objs.size f cd)
 N:=N
 s₀:=s
 H₀:=H
 env:=envOfC qual scope s.heap.objs.size f cd
 outer:=outer
 stack:=envOfC qual scope s.heap.objs.size f cd :: outer
 ex:=[]
 calm:=true
 fn:=fun _=>true
 pn:=[]
 xe:=fun e s'=>wpAny (model P w) (A.deeper (envOfC qual scope s.heap.objs.size f cd)) (leaving (envOfC qual scope s.heap.objs.size f cd) e) (fun _ s''=>CX outer H s E e s'') (fun e' s''=>CX outer H s E e' s'') s'
theorem La {sc:Scope} {n:Nat} {x:Str} (h:sc.names.lookup x=some .cell):∃c,(cellsFrom n sc.names []).lookup x=some c:=by
 have q:=PySem.W.cellsFrom_some sc.names n [] (.inl h)
 exact Option.isSome_iff_exists.mp q
theorem Hj {CX:CXT} {P:Program} {w:World} {K:Θf} {mg:Str->Option Value} {base:Heap} {N ps:List Str} {qual:Str} {scope:Scope} {f:Addr} {cd:Value} {A:Around} {outer:List Env} {s s1:Shared} {H:Hp} {E:XK} {us:List Value} {vs:List V}
  (S:FnScope N ps scope) (hd:A.handled=none) (e0:Env0 P w K mg base A outer s H) (hl:vs.length=ps.length) (r:Vals vs us)
  (x:InCallC s s.heap.objs.size (bindL (envOfC qual scope s.heap.objs.size f cd).kindOf (ps.zip us) fun _=>none) (cellsFrom (s.heap.objs.size + 1) scope.names []) (bindC (envOfC qual scope s.heap.objs.size f cd).kindOf (ps.zip us) fun _=>none) s1) :
  Inv (T0 CX P w K mg base N qual scope f cd A outer s H E) [] (S5 N vs) H s1:=by
 have hpl:ps.length<=N.length:=by have:=congrArg List.length S.pre; rw [ZB] at this; omega
 obtain ⟨h1,tk,rfl,hk⟩:=x.done
 have noA:∀b:Addr,b∉(T0 CX P w K mg base N qual scope f cd A outer s H E).ex:=fun b z=>absurd (show b∈([]:List Addr) from z) (by simp)
 refine ⟨⟨e0.mod,S.kind,rfl,rfl,Zd_ _,fun y z c h1 h2=>?_,fun y hy=>?_,fun y c _ h=>?_,fun _=>hd,Around.frames_deeper e0.frames,.inr ⟨rfl,rfl⟩,fun b z=>absurd z (noA b),e0.bs,e0.bsz,fun b _ _=>noA b,fun b z=>absurd z (noA b),e0.funs,e0.frf⟩,
  rfl,e0.bare,Un.kept hk,⟨_,x.toInCall.ns,fun i y v h1 h2 h3=>?_⟩,fun y c h=>⟨_,x.cell y c h⟩,e0.hok.fresh (Nat.le_refl _),fun y c h=>?_,fun p hp=>absurd (show p∈([]:List (Addr × Obj)) from hp) (by simp),e0.hok.kept hk,?_⟩
 ·exact name_of_addr x.apart (PySem.mem_of_lookup h1) (PySem.mem_of_lookup h2)
 ·have hy:scope.names.lookup y=some .cell\/scope.names.lookup y=some .free:=hy
  rcases hy with hy | hy
  ·exact La hy
  ·exact absurd rfl (S.nofree _ (PySem.mem_of_lookup hy))
 ·exact Nat.le_of_lt (x.above y c (PySem.mem_of_lookup h))
 ·have hi:i < vs.length:=by
   unfold S5 at h2
   by_cases hi:i < vs.length
   ·exact hi
   ·rw [List.getElem?_append_right (by simpa using hi)] at h2
    rw [List.getElem?_replicate] at h2
    split at h2 <;> cases h2
  have ha:vs[i]? = some v:=by
   unfold S5 at h2
   rw [List.getElem?_append_left (by simpa using hi),Θg] at h2
   cases e:vs[i]? with
   | none=>rw [e] at h2; cases h2
   | some a=>rw [e] at h2; cases h2; rfl
  obtain ⟨u,hu,rv⟩:=r.get ha
  have hp:ps[i]? = some y:=by
   rw [<-S.pre,List.getElem?_take_of_lt (by omega)]; exact h1
  have ndP:ps.Nodup:=by rw [<-S.pre]; exact S.nd.sublist (List.take_sublist _ _)
  refine ⟨u,rv,?_⟩
  rcases S.par y (Θe hp) with k | k
  ·exact .inl ⟨k,Gp ndP hp hu k⟩
  ·obtain ⟨c,e⟩:=La (n:=s.heap.objs.size + 1) k
   refine .inr ⟨.inl k,c,e,?_⟩
   have q:=x.cell y c e
   rw [Gn ndP hp hu (by show scope.names.lookup y≠_; rw [k]; decide)] at q
   exact q
 ·exact e0.hok.fresh (Nat.le_of_lt (x.above y c (PySem.mem_of_lookup h)))
 ·unfold S5
  show _=N.length
  rw [Zv_,Θl,List.length_replicate]
  omega
theorem Qh {CX:CXT} {P:Program} {w:World} {K:Θf} {mg:Str->Option Value} {base:Heap} {k:Nat} {f:Addr} {name qual:Str} {params:Arguments} {body:List Stmt} {scope:Scope} {dV kV doc pm cdv ct oc:Value} {an od:Option Addr}
  {osl:Array (Option Value)} {N ps:List Str} {sp:Sp} (lk:K.lookup f=some ⟨oc,od,.func (PySem.W.fnOf name qual params body scope dV kV doc pm an cdv ct),osl⟩) (hcd:PySem.W.codeIn K cdv qual=true) (S:FnScope N ps scope)
  (len:∀vs H Q E,sp vs H Q E->vs.length=ps.length)
  (hbody:∀(A:Around) (outer:List Env) (s:Shared) (H:Hp) (vs:List V) (Q:VK) (E:XK),Room k (A.deeper (envOfC qual scope s.heap.objs.size f cdv))->sp vs H Q E->
   ∃t,PSs (T0 CX P w K mg base N qual scope f cdv A outer s H E) body t/\t { nx:=fun _ H'=>Q .non H',rt:=Q } (S5 N vs) H) :
  FnOk P w K mg base CX (k + 1) f (PySem.W.fnOf name qual params body scope dV kV doc pm an cdv ct) ps sp:=by
 refine ⟨len,fun A outer s H args us vs Q E hr e0 hb r hsp=>?_⟩
 have hl:=len _ _ _ _ hsp
 have KX:K.In s.heap:=e0.mod.kin.keeps fun b o e=>(e0.bs b o e).1
 have lim:s.heap.NoLimit:=e0.mod.nolimit.keeps fun b o e=>(e0.bs b o e).1
 have hkind:∀y∈ps.zip us,scope.names.lookup y.1=some .local\/(scope.names.lookup y.1=some .cell/\((cellsFrom (s.heap.objs.size + 1) scope.names []).lookup y.1).isSome=true):=fun ⟨n,v⟩ hy=>by
  rcases S.par n (List.of_mem_zip hy).1 with q | q
  ·exact .inl q
  ·exact .inr ⟨q,PySem.W.cellsFrom_some _ _ _ (.inl q)⟩
 refine codeAny_call_function hr.depth (KX _ _ lk) rfl S.co S.gen rfl (PySem.W.codeRec_of KX hcd) (hb _ _ _ _ ?_)
 refine wpAny_newFunctionEnv_cells S.kind hkind fun env he s1 x=>?_
 subst he
 refine ⟨lim.keeps x.toInCall.keep,codeAny_func ?_⟩
 obtain ⟨t,ht,hq⟩:=hbody A outer s H vs Q E (hr.deeper _) hsp
 have I:Inv (T0 CX P w K mg base N qual scope f cdv A outer s H E) [] (S5 N vs) H s1:=Hj S hr.hd e0 hl r x
 refine wpAny_mono (ht [] s1 (S5 N vs) H _ I hq) (fun fl s' hs=>?_) fun e s' hs=>hs
 have fin:∀{σ':St} {H':Hp} {v:V} {u:Value},Inv (T0 CX P w K mg base N qual scope f cdv A outer s H E) [] σ' H' s'->RelV v u->Q v H'->CE outer P w H s Q u s':=
  fun {σ' H' v u} J rv q=>⟨v,H',J.os,J.bare,J.base,J.hok,rv,q⟩
 cases fl with
 | ret u=>
  obtain ⟨v,σ',H',J,rv,q⟩:=hs
  exact fin J rv q
 | next=>
  obtain ⟨σ',H',J,q⟩:=hs
  exact fin (v:=V.non) (u:=Value.none) J rfl q
 | brk=>
  obtain ⟨_,_,_,q⟩:=hs
  exact False.elim q
 | cont=>
  obtain ⟨_,_,_,q⟩:=hs
  exact False.elim q
section
variable {X:Cx} {x:Str} {p pos:Pos} {e:Expr} {es:List Expr} {t:TA} {id T:String} {r:List V->Hp->VK->Prop}
noncomputable def tCB (r:List V->Hp->VK->Prop) (t:TA):TE:=fun σ H Q=>t σ H fun vs H1=>r vs H1 Q
theorem D7 (hc:P1 X (.builtin id) r) (hg:Gl X x) (hm:X.mg x=none) (hv:bootBuiltins x=some (.builtin id)) (ha:PA X (e :: es) t) (hn:x≠"__name__":=by decide) (hdb:(x == ("__debug__":Str))=false:=by decide)
  (he:starEach (e :: es) X.env=(false,eval e X.env) :: starEach es X.env:=by rfl) (hpl:(backTo pos (starEach es X.env)).any (·.1)=false:=by rfl):PE X (.Call (.Name x p) (e :: es) [] pos) (tCB r t):=by
 intro pins s σ H Q I h
 refine wpAny_Call_Name_kw (Z7 I hg hm hv ?_ hn hdb)
 exact PyProof.Rows.callWith_builtin1 (thn (ha pos pins s σ H _ I h) fun us s1 ⟨vs,H1,I1,r1,q1⟩=>hc pins s1 σ H1 vs us Q I1 r1 q1) he hpl
theorem I9 (hc:P1 X (.type T) r) (hg:Gl X x) (hm:X.mg x=none) (hv:bootBuiltins x=some (.type T)) (ha:PA X (e :: es) t) (hn:x≠"__name__":=by decide) (hdb:(x == ("__debug__":Str))=false:=by decide)
  (he:starEach (e :: es) X.env=(false,eval e X.env) :: starEach es X.env:=by rfl) (hpl:(backTo pos (starEach es X.env)).any (·.1)=false:=by rfl):PE X (.Call (.Name x p) (e :: es) [] pos) (tCB r t):=by
 intro pins s σ H Q I h
 refine wpAny_Call_Name_kw (Z7 I hg hm hv ?_ hn hdb)
 exact PyProof.Rows.callWith_type1 (thn (ha pos pins s σ H _ I h) fun us s1 ⟨vs,H1,I1,r1,q1⟩=>hc pins s1 σ H1 vs us Q I1 r1 q1) he hpl
end
end L2
namespace HT
open PySem PyProof.Rows
section
open PySem.SeqAt
open PySem.AutoSeq1 (wpAny_loadPart')
open PySem.MeetsSeq PySem.MeetsSeq2 PySem.MeetsSeq3
end
section
variable {prog:Program} {w:World} {A:Around} {E:Value->Shared->Prop} {s:Shared}
noncomputable def sIx (n d:Nat):Option Int->Nat
 | none=>d
 | some v=>if v < 0 then (v + (n:Int)).toNat else min v.toNat n
theorem sIx_none (n d:Nat):sIx n d none=d:=rfl
theorem sIx_nat (n d k:Nat):sIx n d (some (k:Int))=min k n:=by
 show (if (k:Int) < 0 then ((k:Int) + (n:Int)).toNat else min (k:Int).toNat n)=min k n
 rw [if_neg (by omega),Int.toNat_natCast]
end
end HT
namespace L2
open PySem PySem.Spec PyProof.Rows
noncomputable abbrev TO:=St->Hp->(Option Int->Hp->Prop)->Prop
noncomputable def PO (X:Cx) (e:Option Expr) (t:TO):Prop:=
 ∀(pins:List (Addr × Obj)) (s:Shared) (σ:St) (H:Hp) (Q:Option Int->Hp->Prop),Inv X pins σ H s->t σ H Q->
  wpAny (model X.prog X.w) X.A (evalPart e X.env) (fun u s'=>∃o H',Inv X pins σ H' s'/\IsPart u o/\Q o H') X.xe s
noncomputable def Abo:TO:=fun _ H Q=>Q none H
noncomputable def Afc (t:TE):TO:=fun σ H Q=>t σ H fun x H1=>∃i,x = .int i/\Q (some i) H1
theorem Z4 {ns:List Int}:∀{us:List Value},Vals (ns.map V.int) us->IntsAre us ns:=by
 induction ns with
 | nil=>intro us r; rw [List.map_nil] at r; cases r; exact .nil
 | cons n ns ih=>
  intro us r
  rw [List.map_cons] at r
  cases r with
  | cons r1 r2=>
   obtain ⟨t,e⟩:=r1
   subst e
   exact .cons n t (ih r2)
section
variable {X:Cx} {e:Expr} {te:TE} {lo hi:Option Expr} {tl th:TO} {pos p2:Pos}
theorem M7:PO X none Abo:=by
 intro pins s σ H Q I h
 rw [evalPart_none]
 exact Zb_ ⟨none,H,I,.none,h⟩
theorem K6 (h:PE X e te):PO X (some e) (Afc te):=by
 intro pins s σ H Q I hw
 rw [evalPart_some]
 refine thn (h pins s σ H _ I hw) fun u s1 ⟨x,H1,I1,r1,q1⟩=>?_
 obtain ⟨i,rfl,q⟩:=q1
 obtain ⟨t,rfl⟩:=r1
 exact ⟨some i,H1,I1,.int i t,q⟩
noncomputable def SlR (X:Cx) (r:V->Option Int->Option Int->Hp->VK->Prop):Prop:=
 ∀(pins:List (Addr × Obj)) (s:Shared) (σ:St) (H:Hp) (x:V) (v vl vu:Value) (lo hi:Option Int) (sl:Addr) (Q:VK),Inv X pins σ H s->RelV x v->s.heap.IsSliceOf sl vl vu .none->IsPart vl lo->IsPart vu hi->r x lo hi H Q->
  ∃T id,typeLookup (.type T) "__getitem__" = pure (some (.builtin id))/\s.TypeIs v T/\wpAny (model X.prog X.w) X.A (getItem v (.ref sl)) (EP X pins σ Q) X.xe s
noncomputable def tSl (r:V->Option Int->Option Int->Hp->VK->Prop) (te:TE) (tl th:TO):TE:=fun σ H Q=>te σ H fun x H1=>tl σ H1 fun l H2=>th σ H2 fun u H3=>r x l u H3 Q
theorem I0 {r:V->Option Int->Option Int->Hp->VK->Prop} (hr:SlR X r) (he:PE X e te) (hl:PO X lo tl) (hu:PO X hi th):PE X (.Subscript e (.Slice lo hi none p2) pos) (tSl r te tl th):=by
 intro pins s σ H Q I h
 refine Subscript_ (thn (he pins s σ H _ I h) fun v s1 ⟨x,H1,I1,r1,q1⟩=>?_)
 refine wpAny_Slice (thn (hl pins s1 σ H1 _ I1 q1) fun vl s2 ⟨l,H2,I2,pl,q2⟩=>thn (hu pins s2 σ H2 _ I2 q2) fun vu s3 ⟨u,H3,I3,pu,q3⟩=>?_)
 rw [evalPart_none]
 refine Zb_ ?_
 have I4:Inv X pins σ H3 { s3 with heap:=s3.heap.push { cls:=.type "slice",data:=.fields #[vl,vu,.none] } }:=I3.kept (t':=s3.toks) fun b ob q=>Zc_ _ q
 obtain ⟨T,id,hT,ht,hg⟩:=hr pins { s3 with heap:=s3.heap.push { cls:=.type "slice",data:=.fields #[vl,vu,.none] } } σ H3 x v vl vu l u s3.heap.objs.size Q I4 r1 (Heap.IsSliceOf.new ..) pl pu q3
 show wpAny (model X.prog X.w) X.A (subscriptTail e (.Slice lo hi none p2) v (.ref s3.heap.objs.size)) (EP X pins σ Q) X.xe { s3 with heap:=s3.heap.push { cls:=.type "slice",data:=.fields #[vl,vu,.none] } }
 exact tail_any (ops:=[.ref s3.heap.objs.size,v]) ht hT hg (by with_unfolding_all rfl)
noncomputable def R8 (xs:List V) (lo hi:Option Int):List V:=(xs.drop (HT.sIx xs.length 0 lo)).take (HT.sIx xs.length xs.length hi - HT.sIx xs.length 0 lo)
theorem Ld (xs:List V) (lo hi:Option Int):(R8 xs lo hi).length<=xs.length:=by
 unfold R8
 rw [ZB,List.length_drop]
 omega
end
noncomputable def ixN (n:Nat) (i:Int):Option Nat:=if 0<=i then (if i < n then some i.toNat else none) else if -(n:Int)<=i then some (i + n).toNat else none
noncomputable def atI {α:Type} (xs:List α) (i:Int):Option α:=(ixN xs.length i).bind fun j=>xs[j]?
theorem Ql {n:Nat} {i:Int} {j:Nat} (h:ixN n i=some j):seqIndex? i n=some j/\j < n/\-(n:Int)<=i/\i < n:=by
 unfold ixN at h
 by_cases h0:0<=i
 ·rw [if_pos h0] at h
  by_cases h1:i < n
  ·rw [if_pos h1] at h
   have e:i.toNat=j:=Θo h
   exact ⟨by rw [seqIndex_of h0 h1,e],by omega,by omega,h1⟩
  ·rw [if_neg h1] at h; cases h
 ·rw [if_neg h0] at h
  by_cases h1:-(n:Int)<=i
  ·rw [if_pos h1] at h
   have e:(i + n).toNat=j:=Θo h
   exact ⟨by rw [seqIndex_neg (by omega) h1,e],by omega,h1,by omega⟩
  ·rw [if_neg h1] at h; cases h
theorem Iw {α:Type} {xs:List α} {i:Int} {v:α} (h:atI xs i=some v):∃j,seqIndex? i xs.length=some j/\xs[j]? = some v/\j < xs.length/\-(xs.length:Int)<=i/\i < xs.length:=by
 unfold atI at h
 cases e:ixN xs.length i with
 | none=>rw [e] at h; cases h
 | some j=>
  rw [e] at h
  obtain ⟨h1,h2,h3,h4⟩:=Ql e
  exact ⟨j,h1,h,h2,h3,h4⟩
theorem B9 {α:Type} {xs:List α} {j:Nat} {v:α} (h:xs[j]? = some v):atI xs (j:Int)=some v:=by
 have hj:j < xs.length:=(Ze_.mp h).1
 have e:ixN xs.length (j:Int)=some j:=by
  unfold ixN
  rw [if_pos (by omega),if_pos (by omega)]; simp
 unfold atI; rw [e]; exact h
theorem Ux {α:Type} (xs:List α) (v:α):atI (xs++[v]) (-1)=some v:=by
 have hl:(xs++[v]).length=xs.length + 1:=by simp
 have e:ixN (xs++[v]).length (-1)=some xs.length:=by
  unfold ixN
  rw [hl,if_neg (by decide),if_pos (by omega)]
  congr 1
  omega
 unfold atI
 rw [e]
 show (xs++[v])[xs.length]? = some v
 simp
noncomputable def Zm (b:Expr):Prop:=∀o i,subscripted b false o i=operate [o,i] (getItem o i)
noncomputable def IxR (X:Cx) (r:R2):Prop:=
 ∀(value slice:Expr) (pins:List (Addr × Obj)) (s:Shared) (σ:St) (H:Hp) (x y:V) (v u:Value) (Q:VK),Inv X pins σ H s->RelV x v->RelV y u->r x y H Q->
  subscripted slice false v u=operate [v,u] (getItem v u)->wpAny (model X.prog X.w) X.A (subscriptTail value slice v u) (EP X pins σ Q) X.xe s
noncomputable def MtR (X:Cx) (id:String) (r:V->List V->Hp->VK->Prop):Prop:=
 ∀(pins:List (Addr × Obj)) (s:Shared) (σ:St) (H:Hp) (x:V) (xs:List V) (v:Value) (us:List Value) (Q:VK),Inv X pins σ H s->RelV x v->Vals xs us->r x xs H Q->
  wpAny (model X.prog X.w) X.A (call (.builtin id) (v :: us)) (EP X pins σ Q) X.xe s
section
variable {X:Cx} {a b:Expr} {ta tb:TE} {pos:Pos}
theorem C7 {r:R2} (hr:IxR X r) (ha:PE X a ta) (hb:PE X b tb) (hs:Zm b):PE X (.Subscript a b pos) (tOp r ta tb):=by
 intro pins s σ H Q I h
 exact Subscript_ (Aca ha hb I h fun v u s2 x y H2 I2 rx ry q=>hr a b pins s2 σ H2 x y v u Q I2 rx ry q (hs _ _))
noncomputable def Aey (K:Θf):R2:=fun x y H Q=>∃p xs i v,x = .ref p/\y = .int i/\SqL K H p xs/\atI xs i=some v/\Q v H
noncomputable def Aez (K:Θf):R2:=fun x y H Q=>∃p xs i v,x = .ref p/\y = .int i/\SqT K H p xs/\atI xs i=some v/\Q v H
noncomputable def Afx:R2:=fun x y H Q=>∃z i c,x = .str z/\y = .int i/\z.length<=sizeLine/\atI z.cps.toList i=some c/\Q (.str ⟨#[c]⟩) H
theorem Aac:IxR X (Aey X.K):=by
 intro value slice pins s σ H x y v u Q I rx ry h hs
 obtain ⟨p,xs,i,z,rfl,rfl,hq,he,q⟩:=h
 cases rx
 obtain ⟨t,rfl⟩:=ry
 obtain ⟨its,r,pl,hz⟩:=I.list hq
 obtain ⟨j,h1,h2,h3,h4,h5⟩:=Iw he
 obtain ⟨w,ew,rw'⟩:=r.get h2
 have hl:=r.length
 have hn:=Cf
 have fin:EP X pins σ Q w s:=⟨z,H,I,rw',q⟩
 by_cases h0:0<=i
 ·have hj:i.toNat=j:=by
   rw [seqIndex_of h0 h5] at h1
   exact Θo h1
  exact item_listR pl.isList h0 (by omega) (by rw [hj]; simpa using ew) fin hs
 ·have hj:(i + (its.toArray.size:Int)).toNat=j:=by
   rw [seqIndex_neg (by omega) h4] at h1
   rw [Zx_,<-hl]
   exact Θo h1
  exact subscriptTail_builtinR (x:=w) pl.isList.typeIs slot_list_getitem.lookup
   (wpAny_getItem_list_neg (Q:=fun r s'=>r=w/\EP X pins σ Q r s') pl.isList (by omega) (by rw [List.size_toArray] <;> omega) (by omega) (by rw [hj]; simpa using ew) ⟨rfl,fin⟩) hs
theorem Ack:IxR X (Aez X.K):=by
 intro value slice pins s σ H x y v u Q I rx ry h hs
 obtain ⟨p,xs,i,z,rfl,rfl,hq,he,q⟩:=h
 cases rx
 obtain ⟨t,rfl⟩:=ry
 obtain ⟨its,r,pl,hz⟩:=I.tuple hq
 obtain ⟨j,h1,h2,h3,h4,h5⟩:=Iw he
 obtain ⟨w,ew,rw'⟩:=r.get h2
 have hl:=r.length
 have hn:=Cf
 have fin:EP X pins σ Q w s:=⟨z,H,I,rw',q⟩
 exact subscriptTail_builtinR (x:=w) pl.typeIs slot_tuple_getitem.lookup
  (getItem_tuple (j:=j) (Q:=fun r s'=>r=w/\EP X pins σ Q r s') pl (by omega) (by omega) (by rw [List.size_toArray,<-hl]; exact h1) (by simpa using ew) ⟨rfl,fin⟩) hs
theorem Nt:IxR X Afx:=by
 intro value slice pins s σ H x y v u Q I rx ry h hs
 obtain ⟨z,i,c,rfl,rfl,hz,he,q⟩:=h
 obtain ⟨t,rfl⟩:=rx
 obtain ⟨t',rfl⟩:=ry
 obtain ⟨j,h1,h2,h3,h4,h5⟩:=Iw he
 have hl:z.cps.toList.length=z.length:=by simp [Str.length]
 rw [hl] at h1 h4 h5
 have hn:=Cf
 exact tail_any (typeIs_str s z t) slot_str_getitem.lookup (getItem_str (c:=c) (by
  have e1:decide (i < -(2 ^ 63:Int))=false:=decide_eq_false (by omega)
  have e2:decide (i ≥ 2 ^ 63)=false:=decide_eq_false (by omega)
  rw [e1,e2,Bool.or_false]) (by rw [h1]; simpa using h2) ⟨.str ⟨#[c]⟩,H,I.tok _,⟨_,rfl⟩,q⟩) hs
theorem Nz (its:List Value) (n j:Nat) (u:Value):Obj.mapSeq (·.setIfInBounds j u) { cls:=.type "list",data:=.seq its.toArray n }={ cls:=.type "list",data:=.seq (its.set j u).toArray n }:=by
 simp [Obj.mapSeq]
theorem Inv.lst {pins:List (Addr × Obj)} {σ:St} {H:Hp} {s:Shared} {p:Addr} {xs:List V} (I:Inv X pins σ H s) (h:H p=some (.lst xs)) :
  ∃(its:List Value) (n:Nat),Vals xs its/\s.heap.get? p=some { cls:=.type "list",data:=.seq its.toArray n }/\xs.length<=sizeLine:=by
 obtain ⟨z,its,n,r,e⟩:=I.hok p _ h
 exact ⟨its,n,r,e,z⟩
theorem Inv.lstUpd {pins:List (Addr × Obj)} {σ:St} {H:Hp} {s:Shared} {p:Addr} {xs ys:List V} {its its':List Value} {n n':Nat} {f:Obj->Obj} (I:Inv X pins σ H s) (h:H p=some (.lst xs))
  (ho:s.heap.get? p=some { cls:=.type "list",data:=.seq its.toArray n }) (hf:f { cls:=.type "list",data:=.seq its.toArray n }={ cls:=.type "list",data:=.seq its'.toArray n' }) (r:Vals ys its') (hz:ys.length<=sizeLine) (t:Nat) :
  Inv X pins σ (upd H p (.lst ys)) { s with heap:=s.heap.update p f,toks:=t }:=by
 have e:(s.heap.update p f).get? p=some { cls:=.type "list",data:=.seq its'.toArray n' }:=by
  rw [Heap.get?_update_self f ho (by rw [hf] <;> rfl),hf]
 refine I.write (x:=p) (e:=p) (by rw [h]; trivial) (.inl rfl) (fun b u hb q=>(Heap.get?_update_other _ _ (Ne.symm hb)).trans q) ⟨_,e⟩ ?_
 exact ⟨hz,its',n',r,e⟩
noncomputable def Ae0:V->V->V->Hp->(Hp->Prop)->Prop:=fun o i v H Q=>∃p xs k j,o = .ref p/\i = .int k/\H p=some (.lst xs)/\ixN xs.length k=some j/\Q (upd H p (.lst (xs.set j v)))
theorem Mn:Ad8 X Ae0:=by
 intro pins s σ H o i v ov iv u Q I ro ri rv h
 obtain ⟨p,xs,k,j,rfl,rfl,hp,hj,q⟩:=h
 cases ro
 obtain ⟨t,rfl⟩:=ri
 obtain ⟨its,n,r,ho,hz⟩:=I.lst hp
 obtain ⟨h1,h2,h3,h4⟩:=Ql hj
 have hl:=r.length
 have hn:=Cf
 have I':Inv X pins σ (upd H p (.lst (xs.set j v))) { s with heap:=s.heap.update p (Obj.mapSeq (·.setIfInBounds j u)) }:=
  I.lstUpd hp ho (Nz its n j u) (r.set rv j) (by rw [List.length_set]; exact hz) s.toks
 by_cases h0:0<=k
 ·have hk:k.toNat=j:=by
   rw [seqIndex_of h0 h4] at h1
   exact Θo h1
  exact PySem.W.ki_setAt ho h0 (by omega) (by rw [Zx_,<-hl]; exact h4) (by rw [hk]; exact ⟨_,I',q⟩)
 ·have hk:(k + (its.toArray.size:Int)).toNat=j:=by
   rw [seqIndex_neg (by omega) h3] at h1
   rw [Zx_,<-hl]
   exact Θo h1
  exact PySem.W.ki_setBack ho (by omega) (by rw [Zx_,<-hl]; exact h3) (by omega) (by rw [hk]; exact ⟨_,I',q⟩)
theorem Kn (lo hi:Option Int) (n:Nat):(sliceBounds lo hi none n).1=((HT.sIx n 0 lo:Nat):Int)/\(sliceBounds lo hi none n).2.1=((HT.sIx n n hi:Nat):Int)/\(sliceBounds lo hi none n).2.2=1:=by
 refine ⟨?_,?_,rfl⟩
 ·cases lo with
  | none=>simp [sliceBounds,HT.sIx]
  | some i=>
   simp only [sliceBounds,HT.sIx,Option.getD_none,show (1:Int) > 0 by decide,if_true]
   by_cases h:i < 0
   ·simp only [h,if_true] <;> omega
   ·simp only [h,if_false] <;> omega
 ·cases hi with
  | none=>simp [sliceBounds,HT.sIx]
  | some i=>
   simp only [sliceBounds,HT.sIx,Option.getD_none,show (1:Int) > 0 by decide,if_true]
   by_cases h:i < 0
   ·simp only [h,if_true] <;> omega
   ·simp only [h,if_false] <;> omega
theorem Gk (its:List Value) (lo hi:Option Int):slicePick its.toArray lo hi none=((its.drop (HT.sIx its.length 0 lo)).take (HT.sIx its.length its.length hi - HT.sIx its.length 0 lo)).toArray:=by
 obtain ⟨h1,h2,h3⟩:=Kn lo hi its.toArray.size
 unfold slicePick
 rw [h1,h2,h3]
 simp only [sliceRange_one,pick_run,List.size_toArray] <;> rfl
noncomputable def Afz (K:Θf):V->Option Int->Option Int->Hp->VK->Prop:=fun x lo hi H Q=>∃a xs,x = .ref a/\SqL K H a xs/\∀p,H p=none->Q (.ref p) (upd H p (.lst (R8 xs lo hi)))
theorem N0:SlR X (Afz X.K):=by
 intro pins s σ H x v vl vu lo hi sl Q I rx hs pl pu h
 obtain ⟨a,xs,rfl,hx,q⟩:=h
 cases rx
 obtain ⟨its,r,ht,hz⟩:=I.list hx
 have hlen:=r.length
 refine ⟨"list",_,slot_list_getitem.lookup,ht.isList.typeIs,?_⟩
 refine wpAny_getItem_list_slice ht.isList hs pl pu .none (by simp) ?_ (by rw [List.size_toArray] <;> omega)
 rw [Gk,<-hlen]
 refine ⟨.ref s.heap.objs.size,_,I.laid (t':=s.toks) (o:=.lst (R8 xs lo hi)) (fun b ob q=>Zc_ _ q) (Zd_ _) ?_,rfl,q _ (I.hok.fresh (Zd_ _))⟩
 exact ⟨Zo_ (Ld xs lo hi) hz,_,0,(r.drop (HT.sIx xs.length 0 lo)).take (HT.sIx xs.length xs.length hi - HT.sIx xs.length 0 lo),Zm_ _ rfl⟩
noncomputable def Ap:V->Bool
 | .non=>true
 | .bl _=>true
 | .int _=>true
 | .str _=>true
 | _=>false
noncomputable def eqV:V->V->Bool
 | .non,.non=>true
 | .bl a,.bl b=>a == b
 | .bl a,.int b=>(if a then 1 else 0) == b
 | .int a,.bl b=>a == (if b then 1 else 0)
 | .int a,.int b=>a == b
 | .str a,.str b=>a == b
 | _,_=>false
theorem Acf {A:Around} {s:Shared} {y x:V} {u v:Value} (ry:RelV y u) (rx:RelV x v) (fy:Ap y=true) (fx:Ap x=true):SeqAt.EqAt A s u v (eqV y x):=by
 cases y with
 | non=>
  cases ry
  cases x with
  | non=>cases rx; exact SeqAt.EqAt.same _
  | bl b=>cases rx; exact SeqAt.EqAt.none_bool b
  | int b=>obtain ⟨t,rfl⟩:=rx; exact SeqAt.EqAt.none_int b t
  | str b=>obtain ⟨t,rfl⟩:=rx; exact SeqAt.EqAt.none_str b t
  | _=>exact absurd (show false=true from fx) Zf_
 | bl a=>
  cases ry
  cases x with
  | non=>cases rx; exact SeqAt.EqAt.bool_none a
  | bl b=>cases rx; exact SeqAt.EqAt.bool_bool a b
  | int b=>obtain ⟨t,rfl⟩:=rx; exact SeqAt.EqAt.bool_int a b t
  | str b=>obtain ⟨t,rfl⟩:=rx; exact SeqAt.EqAt.bool_str a b t
  | _=>exact absurd (show false=true from fx) Zf_
 | int a=>
  obtain ⟨t',rfl⟩:=ry
  cases x with
  | non=>cases rx; exact SeqAt.EqAt.int_none a t'
  | bl b=>cases rx; exact SeqAt.EqAt.int_bool a t' b
  | int b=>obtain ⟨t,rfl⟩:=rx; exact SeqAt.EqAt.int_int a t' b t
  | str b=>obtain ⟨t,rfl⟩:=rx; exact SeqAt.EqAt.int_str a t' b t
  | _=>exact absurd (show false=true from fx) Zf_
 | str a=>
  obtain ⟨t',rfl⟩:=ry
  cases x with
  | non=>cases rx; exact SeqAt.EqAt.str_none a t'
  | bl b=>cases rx; exact SeqAt.EqAt.str_bool a t' b
  | int b=>obtain ⟨t,rfl⟩:=rx; exact SeqAt.EqAt.str_int a t' b t
  | str b=>obtain ⟨t,rfl⟩:=rx; exact SeqAt.EqAt.str_str a t' b t
  | _=>exact absurd (show false=true from fx) Zf_
 | _=>exact absurd (show false=true from fy) Zf_
noncomputable def eqU (x:V) (u:Value):Bool:=match u with
 | .none=>eqV .non x
 | .bool b=>eqV (.bl b) x
 | .int i _=>eqV (.int i) x
 | .str z _=>eqV (.str z) x
 | _=>false
theorem Nm {x y:V} {u:Value} (r:RelV y u) (f:Ap y=true):eqU x u=eqV y x:=by
 cases y with
 | non=>cases r; rfl
 | bl b=>cases r; rfl
 | int i=>obtain ⟨t,rfl⟩:=r; rfl
 | str z=>obtain ⟨t,rfl⟩:=r; rfl
 | _=>exact absurd (show false=true from f) Zf_
theorem Am {x:V}:∀{xs:List V} {us:List Value},Vals xs us->xs.all Ap=true->us.any (eqU x)=xs.any fun y=>eqV y x
 | _,_,.nil,_=>rfl
 | y :: xs,u :: us,.cons r t,f=>by
  rw [List.all_cons,Bool.and_eq_true] at f
  rw [List.any_cons,List.any_cons,Nm r f.1,Am t f.2]
theorem T7 {A:Around} {s:Shared} {x:V} {v:Value} (rx:RelV x v) (fx:Ap x=true):∀{xs:List V} {us:List Value},Vals xs us->xs.all Ap=true->∀u∈us,SeqAt.EqAt A s u v (eqU x u)
 | _,_,.nil,_=>fun u hu=>by cases hu
 | y :: xs,u :: us,.cons r t,f=>fun u' hu=>by
  rw [List.all_cons,Bool.and_eq_true] at f
  rcases Zg_.mp hu with rfl | hu
  ·rw [Nm r f.1]; exact Acf r rx f.1 fx
  ·exact T7 rx fx t f.2 u' hu
noncomputable def inV (x:V) (xs:List V):Bool:=xs.any fun y=>eqV y x
noncomputable def rIn (K:Θf) (neg:Bool):R2:=fun x y H Q=>∃p xs,y = .ref p/\(SqL K H p xs\/SqT K H p xs)/\Ap x=true/\xs.all Ap=true/\Q (.bl (if neg then !inV x xs else inV x xs)) H
theorem Tp:OpR X (compareOp .In) (rIn X.K false):=by
 intro pins s σ H x y v u Q I rx ry h
 obtain ⟨p,xs,rfl,hq,fx,fs,q⟩:=h
 cases ry
 rcases hq with hq | hq
 ·obtain ⟨its,r,pl,hz⟩:=I.list hq
  refine SeqAt.in_listAt (eqU x) pl.isList (fun w hw=>T7 rx fx r fs w (by simpa using hw)) ⟨.bl _,H,I,rfl,?_⟩
  rw [show its.toArray.any (eqU x)=its.any (eqU x) by simp,Am r fs]
  exact q
 ·obtain ⟨its,r,pl,hz⟩:=I.tuple hq
  refine SeqAt.in_tupleAt (eqU x) pl (fun w hw=>T7 rx fx r fs w (by simpa using hw)) ⟨.bl _,H,I,rfl,?_⟩
  rw [show its.toArray.any (eqU x)=its.any (eqU x) by simp,Am r fs]
  exact q
theorem V0:OpR X (compareOp .NotIn) (rIn X.K true):=by
 intro pins s σ H x y v u Q I rx ry h
 obtain ⟨p,xs,rfl,hq,fx,fs,q⟩:=h
 cases ry
 rcases hq with hq | hq
 ·obtain ⟨its,r,pl,hz⟩:=I.list hq
  refine SeqAt.notIn_listAt (eqU x) pl.isList (fun w hw=>T7 rx fx r fs w (by simpa using hw)) ⟨.bl _,H,I,rfl,?_⟩
  rw [show its.toArray.any (eqU x)=its.any (eqU x) by simp,Am r fs]
  exact q
 ·obtain ⟨its,r,pl,hz⟩:=I.tuple hq
  refine SeqAt.notIn_tupleAt (eqU x) pl (fun w hw=>T7 rx fx r fs w (by simpa using hw)) ⟨.bl _,H,I,rfl,?_⟩
  rw [show its.toArray.any (eqU x)=its.any (eqU x) by simp,Am r fs]
  exact q
theorem Ix:P1 X (.builtin "len") (fun xs H Q=>∃p ys,xs=[.ref p]/\(SqL X.K H p ys\/SqT X.K H p ys)/\Q (.int ys.length) H):=by
 intro pins s σ H xs us Q I r h
 obtain ⟨p,ys,rfl,hq,q⟩:=h
 obtain ⟨u,rfl,rx⟩:=V6 r
 cases rx
 have hn:=Cf
 rcases hq with hq | hq
 ·obtain ⟨its,r',pl,hz⟩:=I.list hq
  have hlen:=r'.length
  exact Calls.call_len_list pl.isList (by simp only [List.size_toArray] <;> omega) ⟨.int ys.length,H,I.tok _,⟨s.toks + 1,by rw [List.size_toArray,hlen]⟩,q⟩
 ·obtain ⟨its,r',pl,hz⟩:=I.tuple hq
  have hlen:=r'.length
  exact len_tuple pl (by simp only [List.size_toArray] <;> omega) ⟨.int ys.length,H,I.tok _,⟨s.toks + 1,by rw [List.size_toArray,hlen]⟩,q⟩
theorem Iy:P1 X (.type "list") (fun xs H Q=>∃p ys,xs=[.ref p]/\(SqL X.K H p ys\/SqT X.K H p ys)/\∀l,H l=none->Q (.ref l) (upd H l (.lst ys))):=by
 intro pins s σ H xs us Q I r h
 obtain ⟨p,ys,rfl,hq,q⟩:=h
 obtain ⟨u,rfl,rx⟩:=V6 r
 cases rx
 have fin:∀(its:List Value),Vals ys its->ys.length<=sizeLine->∀(h':Heap) (c':Nat),(∀b o',s.heap.get? b=some o'->h'.get? b=some o')->
   h'.get? s.heap.objs.size=some { cls:=.type "list",dict:=none,data:=.seq its.toArray c',slots:=#[] }->EP X pins σ Q (.ref s.heap.objs.size) { s with heap:=h' }:=fun its r' hz h' c' kp e=>
  ⟨.ref s.heap.objs.size,_,I.laid (t':=s.toks) kp (Zd_ _) (show ObjOk X.prog X.w _ h' _ (.lst ys) from ⟨hz,its,c',r',e⟩),rfl,q _ (I.hok.fresh (Zd_ _))⟩
 rcases hq with hq | hq
 ·obtain ⟨its,r',pl,hz⟩:=I.list hq
  have hlen:=r'.length
  obtain ⟨o,ho,hc,n,hd⟩:=pl.isList
  exact call_list_seq p (.inl rfl) ho hc hd (fun h' c' kp e=>fin its r' hz h' c' kp e) (by simp only [List.size_toArray] <;> omega)
 ·obtain ⟨its,r',pl,hz⟩:=I.tuple hq
  have hlen:=r'.length
  obtain ⟨o,ho,hc,n,hd⟩:=pl
  exact call_list_seq p (.inr rfl) ho hc hd (fun h' c' kp e=>fin its r' hz h' c' kp e) (by simp only [List.size_toArray] <;> omega)
noncomputable def tyV (K:Θf) (T:String) (x:V) (H:Hp):Prop:=match x with
 | .str _=>T = "str"
 | .int _=>T = "int"
 | .ref p=>(T = "list"/\∃xs,SqL K H p xs)\/(T = "tuple"/\∃o,K.lookup p=some o/\o.cls = .type "tuple"/\o.dict=none)\/
   (T = "dict"/\((∃kvs,H p=some (.dK kvs))\/∃kvs,H p=some (.dT kvs)))\/(T = "set"/\∃S n,H p=some (.set S n))
 | _=>False
theorem Zd {pins:List (Addr × Obj)} {σ:St} {H:Hp} {s:Shared} {T:String} {x:V} {v:Value} (I:Inv X pins σ H s) (r:RelV x v) (ty:tyV X.K T x H) :
  s.TypeIs v T/\∀a,v = .ref a->∃ob,s.heap.get? a=some ob/\ob.dict=none:=by
 cases x with
 | str z=>
  obtain ⟨t,rfl⟩:=r
  cases (show T = "str" from ty)
  exact ⟨typeIs_str s z t,fun _ e=>nomatch e⟩
 | int i=>
  obtain ⟨t,rfl⟩:=r
  cases (show T = "int" from ty)
  exact ⟨typeIs_int s i t,fun _ e=>nomatch e⟩
 | ref p=>
  cases r
  rcases ty with ⟨rfl,xs,hq⟩ | ⟨rfl,o,hk,hc,hd⟩ | ⟨rfl,hk⟩ | ⟨rfl,S,n,hk⟩
  ·obtain ⟨its,_,pl,_⟩:=I.list hq
   refine ⟨pl.isList.typeIs,fun a e=>?_⟩
   cases e
   obtain ⟨o,n,e,c,hd,_⟩:=pl
   exact ⟨o,e,hd⟩
  ·refine ⟨⟨o,I.kIn p o hk,hc⟩,fun a e=>?_⟩
   cases e
   exact ⟨o,I.kIn _ o hk,hd⟩
  ·have z:∃o,s.heap.get? p=some o/\o.ExactDict:=by
    rcases hk with ⟨kvs,hk⟩ | ⟨kvs,hk⟩
    ·obtain ⟨_,_,_,_,o,_,_,e,ex,_⟩:=I.hok p _ hk
     exact ⟨o,e,ex⟩
    ·obtain ⟨_,_,_,_,o,_,_,e,ex,_⟩:=I.hok p _ hk
     exact ⟨o,e,ex⟩
   obtain ⟨o,e,ex⟩:=z
   refine ⟨⟨o,e,ex.1⟩,fun a e2=>?_⟩
   cases e2
   exact ⟨o,e,ex.2.1⟩
  ·obtain ⟨o,_,_,_,e,ex,_⟩:=I.hok p _ hk
   refine ⟨⟨o,e,ex.1⟩,fun a e2=>?_⟩
   cases e2
   exact ⟨o,e,ex.2.1⟩
 | _=>exact False.elim ty
noncomputable def Af5 (K:Θf) (T:String) (r:V->List V->Hp->VK->Prop) (to:TE):TE:=fun σ H Q=>to σ H fun x H1=>tyV K T x H1/\r x [] H1 Q
noncomputable def tBM (K:Θf) (T:String) (r:V->List V->Hp->VK->Prop) (to:TE) (t:TA):TE:=fun σ H Q=>to σ H fun x H1=>tyV K T x H1/\t σ H1 fun xs H2=>r x xs H2 Q
variable {o e:Expr} {es:List Expr} {to:TE} {t:TA} {name:Str} {apos cpos:Pos} {T id:String} {r:V->List V->Hp->VK->Prop}
theorem Adc (pa:PlainAttrs T) (slot:Slot T name id) (hty:typeOf (.builtin id)=pure (.type "method_descriptor")) (hm:MtR X id r) (ho:PE X o to)
  (hbase:attributeBase o name X.env (eval o X.env)=eval o X.env:=by rfl) (hline:(apos.endLine == cpos.line)=true:=by rfl):PE X (.Call (.Attribute o name apos) [] [] cpos) (Af5 X.K T r to):=by
 intro pins s σ H Q I h
 refine wpAny_Call_method0_late hbase hline (thn (ho pins s σ H _ I h) fun v s1 ⟨x,H1,I1,r1,ty,q1⟩=>?_)
 obtain ⟨h1,h2⟩:=Zd I1 r1 ty
 exact ⟨T,id,pa,slot,hty,h1,h2,Calls.callWith_builtin rfl (PySem.evalArgs_none (hm pins s1 σ H1 x [] v [] Q I1 r1 .nil q1))⟩
theorem G5 (pa:PlainAttrs T) (slot:Slot T name id) (hty:typeOf (.builtin id)=pure (.type "method_descriptor")) (hm:MtR X id r) (ho:PE X o to) (ha:PA X (e :: es) t)
  (hbase:attributeBase o name X.env (eval o X.env)=eval o X.env:=by rfl)
  (hfew:((backTo cpos (starEach (e :: es) X.env)).all (fun x=>!x.1) && (backToKw cpos (keywordEach [] X.env)).all (fun x=>x.1.isSome)
   && decide ((e :: es).length + ([]:List Keyword).length + (if ([]:List Keyword).isEmpty then 0 else 1) < 30))=true:=by rfl)
  (hline:(apos.endLine == cpos.line)=true:=by rfl) (hs:starEach (e :: es) X.env=(false,eval e X.env) :: starEach es X.env:=by rfl) (hplain:(backTo cpos (starEach es X.env)).any (·.1)=false:=by rfl) :
  PE X (.Call (.Attribute o name apos) (e :: es) [] cpos) (tBM X.K T r to t):=by
 intro pins s σ H Q I h
 refine wpAny_Call_method_late hbase hfew hline rfl (thn (ho pins s σ H _ I h) fun v s1 ⟨x,H1,I1,r1,ty,q1⟩=>?_)
 obtain ⟨h1,h2⟩:=Zd I1 r1 ty
 refine ⟨T,id,pa,slot,hty,h1,h2,?_⟩
 have hA:=ha cpos pins s1 σ H1 _ I1 q1
 rw [hs] at hA ⊢
 refine Calls.callWith_builtin (by show (false || (backTo cpos (starEach es X.env)).any (·.1))=false; rw [hplain] <;> rfl) (Calls.evalArgs_plain ?_)
 exact thn hA fun us s2 ⟨vs,H2,I2,r2,q2⟩=>hm pins s2 σ H2 x vs v us Q I2 r1 r2 q2
end
noncomputable def MtM (X:Cx) (id:String) (r:V->List V->Hp->VK->Prop):Prop:=
 ∀(pins:List (Addr × Obj)) (s:Shared) (σ:St) (H:Hp) (x:V) (xs:List V) (v:Value) (us:List Value) (Q:VK),Inv X pins σ H s->RelV x v->Vals xs us->r x xs H Q->
  wpAny (model X.prog X.w) X.A (call (.builtin id) (v :: us)) (EP X pins σ Q) X.xe s
theorem Vals.one:∀{x:V} {us:List Value},Vals [x] us->∃u,us=[u]/\RelV x u
 | _,_,.cons r .nil=>⟨_,rfl,r⟩
theorem Vals.rep {xs:List V} {us:List Value} (h:Vals xs us):∀k:Nat,Vals (List.replicate k xs).flatten (List.replicate k us).flatten
 | 0=>.nil
 | k + 1=>by
  rw [List.replicate_succ,List.replicate_succ,List.flatten_cons,List.flatten_cons]
  exact Vals.append h (Vals.rep h k)
theorem Hf (its:List Value):∀(k:Nat) (acc:List Value),
  List.foldl (fun x1 x2=>x1++x2) acc.toArray (List.replicate k its.toArray)=(acc++(List.replicate k its).flatten).toArray
 | 0,acc=>by simp
 | k + 1,acc=>by
  have e:acc.toArray++its.toArray=(acc++its).toArray:=by simp
  have e2:(acc++its)++(List.replicate k its).flatten=acc++(List.replicate (k + 1) its).flatten:=by
   rw [List.replicate_succ,List.flatten_cons,Zy_]
  rw [<-e2,<-Hf its k (acc++its),<-e,List.replicate_succ,List.foldl_cons]
section
variable {X:Cx} {pins:List (Addr × Obj)} {σ:St} {H:Hp} {s:Shared} {l b:Addr} {xs ys zs:List V}
theorem Inv.lset {its its':List Value} {n:Nat} {f:Array Value->Array Value} {t':Nat} (I:Inv X pins σ H s) (hH:H l=some (.lst xs))
  (e:s.heap.get? l=some { cls:=.type "list",data:=.seq its.toArray n }) (hf:f its.toArray=its'.toArray) (hv:Vals ys its') (hz:ys.length<=sizeLine) :
  Inv X pins σ (upd H l (.lst ys)) { s with heap:=s.heap.update l (Obj.mapSeq f),toks:=t' }:=by
 have q:=PySem.IsL.update e f
 rw [hf] at q
 refine I.write (x:=l) (e:=l) (by rw [hH]; exact trivial) (.inl rfl) (fun b' u hb hu=>(Heap.get?_update_other s.heap (Obj.mapSeq f) (Ne.symm hb)).trans hu) ⟨_,q⟩ ?_
 exact ⟨hz,its',_,hv,q⟩
theorem Inv.lnew {its:List Value} {t':Nat} (I:Inv X pins σ H s) (hv:Vals ys its) (hz:ys.length<=sizeLine) :
  Inv X pins σ (upd H s.heap.objs.size (.lst ys)) { s with heap:=s.heap.push { cls:=.type "list",data:=.seq its.toArray },toks:=t' }:=
 I.laid (fun _ _ q=>Zc_ _ q) (Zd_ _) ⟨hz,its,0,hv,Zm_ _ rfl⟩
theorem Inv.fresh (I:Inv X pins σ H s):H s.heap.objs.size=none:=I.hok.fresh (Zd_ _)
theorem Inv.lstM (I:Inv X pins σ H s) (hH:H l=some (.lst xs)):xs.length<=sizeLine/\∃(its:List Value) (n:Nat),Vals xs its/\xs.length=its.length/\s.heap.get? l=some { cls:=.type "list",data:=.seq its.toArray n }:=by
 obtain ⟨z,its,n,r,e⟩:=I.hok l _ hH
 exact ⟨z,its,n,r,r.length,e⟩
theorem Mb {n:Nat} (h:n<=sizeLine):Builtin.List.listTooLong n=false:=by
 unfold Builtin.List.listTooLong
 exact decide_eq_false (by omega)
end
section
variable {X:Cx}
noncomputable def Aa9:V->List V->Hp->VK->Prop:=fun x vs H Q=>∃l xs y,x = .ref l/\vs=[y]/\H l=some (.lst xs)/\xs.length < sizeLine/\Q .non (upd H l (.lst (xs++[y])))
theorem Q8:MtM X "list.append" Aa9:=by
 intro pins s σ H x vs v us Q I rx rv h
 obtain ⟨l,xs,y,rfl,rfl,hH,hz,q⟩:=h
 cases rx
 obtain ⟨u,rfl,ru⟩:=rv.one
 obtain ⟨z,its,n,r,hl,e⟩:=I.lstM hH
 refine call_meets F.slot_list_append ⟨_,e,rfl⟩ F.entry_list_append (F.args_list_append_2 _ _) (PySem.list_append l its.toArray n u (by rw [Zx_]; omega)) ⟨e,?_⟩
 refine ⟨.non,_,I.lset (its':=its++[u]) hH e (by simp) (r.append (.cons ru .nil)) ?_,rfl,q⟩
 rw [Zv_,List.length_singleton]
 omega
noncomputable def Aba:V->List V->Hp->VK->Prop:=fun x vs H Q=>∃l b xs zs,x = .ref l/\vs=[.ref b]/\H l=some (.lst xs)/\H b=some (.lst zs)/\xs.length + zs.length<=sizeLine/\Q .non (upd H l (.lst (xs++zs)))
theorem Ch:MtM X "list.extend" Aba:=by
 intro pins s σ H x vs v us Q I rx rv h
 obtain ⟨l,b,xs,zs,rfl,rfl,hH,hB,hz,q⟩:=h
 cases rx
 obtain ⟨u,rfl,ru⟩:=rv.one
 cases ru
 obtain ⟨z,its,n,r,hl,e⟩:=I.lstM hH
 obtain ⟨z2,its2,n2,r2,hl2,e2⟩:=I.lstM hB
 have hsz:its.toArray.size + its2.toArray.size<=sizeLine:=by rw [Zx_,Zx_]; omega
 have hlong:¬(!its.toArray.isEmpty && Builtin.List.listTooLong (its.toArray.size + its2.toArray.size))=true:=by
  rw [Mb hsz,Bool.and_false]
  exact Zf_
 refine call_meets F.slot_list_extend ⟨_,e,rfl⟩ F.entry_list_extend (F.args_list_extend_2 _ _)
  (AutoSeq1.list_extend_list_list_0 l its.toArray n b its2.toArray n2 hlong (by rw [Zx_]; omega) (by omega)) ⟨e,e2,?_⟩
 refine ⟨.non,_,I.lset (its':=its++its2) hH e (by simp) (r.append r2) ?_,rfl,q⟩
 rw [Zv_]
 omega
noncomputable def Afv:R2:=fun x y H Q=>∃l b xs zs,x = .ref l/\y = .ref b/\H l=some (.lst xs)/\H b=some (.lst zs)/\xs.length + zs.length<=sizeLine/\∀p,H p=none->Q (.ref p) (upd H p (.lst (xs++zs)))
theorem F2:OpR X (binaryOp .Add) Afv:=by
 intro pins s σ H x y v u Q I rx ry h
 obtain ⟨l,b,xs,zs,rfl,rfl,hH,hB,hz,q⟩:=h
 cases rx
 cases ry
 obtain ⟨z,its,n,r,hl,e⟩:=I.lstM hH
 obtain ⟨z2,its2,n2,r2,hl2,e2⟩:=I.lstM hB
 refine PySem.P.add_list e e2 ?_ (by rw [Zx_,Zx_]; omega)
 have ea:its.toArray++its2.toArray=(its++its2).toArray:=by simp
 rw [ea]
 exact ⟨.ref _,_,I.lnew (t':=s.toks) (r.append r2) (by rw [Zv_]; omega),rfl,q _ I.fresh⟩
noncomputable def Afy:R2:=fun x y H Q=>∃l k xs,x = .ref l/\y = .int k/\H l=some (.lst xs)/\-(2 ^ 63)<=k/\k < 2 ^ 63/\xs.length * k.toNat<=sizeLine/\
 ∀p,H p=none->Q (.ref p) (upd H p (.lst (List.replicate k.toNat xs).flatten))
theorem Aag {α:Type} (xs:List α) (k:Nat):(List.replicate k xs).flatten.length=k * xs.length:=by
 induction k with
 | zero=>simp
 | succ k ih=>rw [List.replicate_succ,List.flatten_cons,Zv_,ih,Nat.succ_mul,Nat.add_comm]
theorem Cj:OpR X (binaryOp .Mult) Afy:=by
 intro pins s σ H x y v u Q I rx ry h
 obtain ⟨l,k,xs,rfl,rfl,hH,h1,h2,hz,q⟩:=h
 cases rx
 obtain ⟨t,rfl⟩:=ry
 obtain ⟨z,its,n,r,hl,e⟩:=I.lstM hH
 have hlen:its.toArray.size * k.toNat<=sizeLine:=by rw [Zx_,<-hl]; exact hz
 have hcap:¬its.toArray.size * k.toNat > (2 ^ 63 - 1) / 8:=by
  have:(sizeLine:Nat)<=(2 ^ 63 - 1) / 8:=by decide
  omega
 have hfit:¬(!Builtin.List.listFitsIndex k)=true:=by
  rw [fitsIndex_both h1 h2]
  exact Zf_
 have hlong:¬Builtin.List.listTooLong (its.toArray.size * k.toNat)=true:=by
  rw [Mb hlen]
  exact Zf_
 have hnew:List.foldl (fun x1 x2=>x1++x2) #[] (List.replicate (if its.toArray.isEmpty=true then 0 else k.toNat) its.toArray)=(List.replicate k.toNat its).flatten.toArray:=by
  have f0:∀m:Nat,List.foldl (fun x1 x2=>x1++x2) #[] (List.replicate m its.toArray)=(List.replicate m its).flatten.toArray:=fun m=>by
   have:=Hf its m []
   rw [List.nil_append] at this
   exact this
  rw [f0]
  cases its with
  | nil=>simp
  | cons a r'=>rw [if_neg (by simp)]
 refine wpAny_binaryOp_repeat_ref (T:="list") (U:="int") (by decide) ⟨_,e,rfl⟩ (fun s'=>typeIs_int s' k t) noFill_list_mul F.fills_int_mul F.slot_int_rmul repeat_list F.slot_int_index.lookup
  (call_meets F.slot_int_rmul (typeIs_int s k t) F.entry_int_rmul (F.args_int_rmul_2 _ _) (int___rmul___int_list k t l its.toArray n)
   ⟨e,rfl,⟨_,e,rfl⟩,call_meets F.slot_list_mul ⟨_,e,rfl⟩ F.entry_list_mul (F.args_list_mul_2 _ _) (AutoListH.list___mul___list_int_3 l its.toArray n k t hfit hcap hlong) ⟨e,?_⟩⟩)
 rw [hnew]
 exact ⟨.ref _,_,I.lnew (t':=s.toks) (r.rep k.toNat) (by rw [Aag,Nat.mul_comm]; exact hz),rfl,q _ I.fresh⟩
end
section
variable {prog:Program} {w:World} {A:Around} {E:Value->Shared->Prop} {s:Shared}
end
section
variable {X:Cx}
end
end L2
namespace Att
open PySem PySem.W PySem.Calls PyProof.Rows
theorem Dt {P:Params} {h:Heap}:∀(ns:List Int) (vs:List Value),WellAll P h vs (ns.map WData.int)->IntsAre vs ns:=by
 intro ns
 induction ns with
 | nil=>
  intro vs w
  rw [List.map_nil] at w
  cases w
  exact .nil
 | cons n ns ih=>
  intro vs w
  rw [List.map_cons] at w
  cases w with
  | cons a b=>
   cases a
   exact .cons _ _ (ih _ b)
theorem Ud {l:OpenLaw} {n:Nat} (hn:l.most=some n) {P:Params} {h:Heap} {args:List WData} {vals:List Value}
  (hpre:l.row.toRowW.claim.pre args=true) (hwl:WellAll P h vals args) :
  ∃a vs ns,vals=[Value.ref a]/\args=[WData.list (ns.map WData.int)]/\h.get? a=some { cls:=.type "list",data:=.seq vs.toArray }/\IntsAre vs ns/\ns.length<=n:=by
 have hsh:WShape.hasAll [] args [.list .int]=true:=(pre_splitW hpre).1
 have hc:l.pre.holds [] { args:=args }=true:=(pre_splitW hpre).2
 obtain ⟨d,r,rfl,h1,h2⟩:=hasAllW_cons hsh
 obtain rfl:=hasAllW_nil h2
 obtain ⟨xs,rfl,h3⟩:=hasW_list h1
 obtain ⟨ns,rfl⟩:=items_int h3
 have hlen:ns.length<=n:=by
  unfold OpenLaw.pre at hc
  have h4:(WTm.not (.lt (.lit (.int (n:Int))) (.len (.arg 0)))).holds [] { args:=[.list (ns.map .int)] }=true:=by
   have h4:=(holds_andW hc).1
   rw [hn] at h4
   exact h4
  have h5:=condW_of h4 (w_not (w_lt w_lit (w_len_list (w_arg rfl))))
  rw [Θl] at h5
  refine Nat.le_of_not_lt fun q=>?_
  have q':(n:Int) < ((ns.length:Nat):Int):=by omega
  first
   | (rw [Zr_ q'] at h5; exact absurd h5 (by decide))
   | (simp at h5; omega)
 cases hwl with
 | cons w1 w2=>
  cases w2
  cases w1 with
  | list ho hall=>exact ⟨_,_,ns,rfl,rfl,ho,Dt ns _ hall,hlen⟩
theorem Tv (l:OpenLaw) (args:List WData):l.row.toRowW.claim.post args (.bool true) args=true:=
 postW_of (r:=l.row.toRowW) (X:=(true == true))
  (show WShape.has [] (.bool true) .bool=true by first | rfl | decide | simp [WShape.has,WShape.arms,WShape.armsAll])
  (show (WTm.eq .res (.lit (.bool true))).value [] { args:=args,res:=some (.bool true),after:=args }=some (.bool (true == true)) from w_eq_bool (w_res rfl) w_lit) rfl
theorem attach_call {l:OpenLaw} {n:Nat} {q:Program} {loose:List Str} {XP:(Str->Option Value)->Heap->Prop} {YP:World->Heap->Prop} {d:DefRec}
  (hn:l.most=some n) (hdf:d.params.defaults=[])
  (call:∀(w:World) (s₀ s₁:Shared) (mg mb:Str->Option Value) (fa:Addr) (o:Obj) (pm cd doc:Value) (a:Addr) (vs:List Value) (ns:List Int),
   Ground q loose [] XP w s₀ mg mb s₁.heap->YP w s₁.heap->
   s₁.heap.get? fa=some o->o.data = .func (docDef d.name d.params d.body d.scope pm cd doc)->s₁.heap.CodeRec cd d.name->mg d.name=some (.ref fa)->
   s₁.heap.get? a=some { cls:=.type "list",data:=.seq vs.toArray }->IntsAre vs ns->ns.length<=n->s₁.gens = #[]->
   codeAny (model l.prog w) callerA (.call (.ref fa) ⟨[.ref a],[]⟩) (fun r s'=>r = .ok (.ret (.bool true))/\OldK s₁.heap s'.heap/\s'.os=s₁.os/\AllBare s'.gens) s₁) :
  WalkO q loose XP YP l.row.toRowW d [] (fun f vs=>PySem.call f vs):=by
 intro w s₀ s₁ mg mb G Y fa o pm cd doc dV kV ho hd hcd hD hmg hg args vals as hpre hlay hrd hwl hlo
 obtain rfl:dV = .none:=Dflts.none hD hdf
 obtain rfl:kV = .none:=Dflts.noKw hD
 obtain ⟨a,vs,ns,rfl,rfl,hobj,hints,hlen⟩:=Ud hn hpre hwl
 refine enter_call (codeAny_mono (call w s₀ s₁ mg mb fa o pm cd doc a vs ns G Y ho (fd_plain hd) hcd hmg hobj hints hlen hg) fun r s' hq=>?_)
 obtain ⟨rfl,h2,h3,h4⟩:=hq
 exact ⟨.inl ⟨.bool true,.bool true,[],rfl,fun _=>rfl,.bool true,Tv l _,fun _=>⟨List.Pairwise.nil,fun _ hm=>(nomatch hm)⟩⟩,h2,h3,h4⟩
section
variable {prog:Program} {w:World} {A:Around} {E:Value->Shared->Prop} {s:Shared} {K:Frag}
end
end Att
namespace L2
open PySem PySem.Spec PyProof.Rows
theorem Cu:∀{vs:List Value} {ns:List Int},IntsAre vs ns->Vals (ns.map V.int) vs
 | _,_,.nil=>.nil
 | _,_,.cons n t h=>.cons ⟨t,rfl⟩ (Cu h)
noncomputable def Zl (H:Hp):Prop:=∀b,H b=none\/∃o xs,H b=some (.frz o (.lst xs))
theorem Wa {P:Program} {w:World} {K:Θf} {mg mb:Str->Option Value} {CX:CXT} {k:Nat} {fa a:Addr} {fd:FuncData} {x:Str} {sp:Sp} {s₁:Shared} {vs:List Value} {ns:List Int}
  (KX:K.In s₁.heap) (hns:s₁.heap.Ns mainGlobals mg) (hb:s₁.heap.Ns builtinsNs mb) (hbb:∀x:Str,x≠"__name__"->mb x=bootBuiltins x) (hlim:s₁.heap.NoLimit) (hg:s₁.gens = #[])
  (ha:s₁.heap.get? a=some { cls:=.type "list",data:=.seq vs.toArray }) (hi:IntsAre vs ns) (hl:ns.length<=sizeLine) (hr:Room k callerA)
  (F:∀base:Heap,K.In base->base.Ns mainGlobals mg->FnOk P w K mg base CX k fa fd [x] sp) (hbind:∀(s:Shared) (u:Value),BindsTo s fd ⟨[u],[]⟩ [(x,u)])
  (hsp:∀H:Hp,Zl H->SqL K H a (ns.map V.int)->sp [.ref a] H (fun v _=>v = .bl true) fun _ _ _=>False)
  (hCX:∀H e s',CX [] H s₁ (fun _ _ _=>False) e s'->False) :
  codeAny (model P w) callerA (.call (.ref fa) ⟨[.ref a],[]⟩) (fun r s'=>r = .ok (.ret (.bool true))/\OldK s₁.heap s'.heap/\s'.os=s₁.os/\AllBare s'.gens) s₁:=by
 have rv:=Cu hi
 have lenV:=hi.length
 have core:∀H:Hp,Zl H->SqL K H a (ns.map V.int)->HOk P w H s₁.heap->(∀b,H b≠none->b=a)->(H a≠none->K.lookup a=none)->
   codeAny (model P w) callerA (.call (.ref fa) ⟨[.ref a],[]⟩) (fun r s'=>r = .ok (.ret (.bool true))/\OldK s₁.heap s'.heap/\s'.os=s₁.os/\AllBare s'.gens) s₁:=by
  intro H hO hS hok hA hK
  have base_of:∀{b:Addr} {o:Obj},s₁.heap.get? b=some o->H b=none->(Ji s₁.heap H).get? b=some o:=fun e n=>Vr e n
  have noA:∀{b:Addr} {o:Obj} {es:Array DictEntry} {ep:Nat},s₁.heap.get? b=some o->o.data = .dict es ep->H b=none:=fun {b o es ep} e d=>by
   cases q:H b with
   | none=>rfl
   | some u=>
    have e':b=a:=hA b (by rw [q]; simp)
    subst e'
    rw [ha] at e; cases e
    have d':Data.seq vs.toArray _=Data.dict es ep:=d
    cases d'
  have nsK:∀{b:Addr} {m:Str->Option Value},s₁.heap.Ns b m->(Ji s₁.heap H).Ns b m:=fun {b m} ⟨o,es,ep,e,d,r⟩=>⟨o,es,ep,base_of e (noA e d),d,r⟩
  have hKb:K.In (Ji s₁.heap H):=fun b o e=>base_of (KX b o e) (by
   cases q:H b with
   | none=>rfl
   | some u=>
    have e':b=a:=hA b (by rw [q]; simp)
    subst e'
    rw [hK (by rw [q]; simp)] at e; cases e)
  have hM:Mod K mg (Ji s₁.heap H):=⟨hKb,nsK hns,⟨mb,nsK hb,hbb⟩,let ⟨mc,h1,h2⟩:=hlim; ⟨mc,nsK h1,h2⟩⟩
  have e0:Env0 P w K mg (Ji s₁.heap H) callerA [] s₁ H:=⟨rfl,hM,fun b o e=>Aam e,Nat.le_of_eq (Sq _ _),trivial,fun b hb=>absurd (show b∈([]:List Addr) from hb) (by simp),hok,.of_eq hg⟩
  refine codeAny_mono ((F _ hKb (nsK hns)).run callerA [] s₁ H ⟨[.ref a],[]⟩ [.ref a] [.ref a] _ _ hr e0 (hbind s₁ (.ref a)) (.cons rfl .nil) (hsp H hO hS)) fun r s' h=>?_
  cases r with
  | error e=>exact (hCX H e s' h).elim
  | ok fl=>
   cases fl with
   | next=>exact False.elim h
   | brk=>exact False.elim h
   | cont=>exact False.elim h
   | ret u=>
    obtain ⟨v,H',os,bare,un,hok',r',q⟩:=h
    have q':v = .bl true:=q
    subst q'
    obtain rfl:u=Value.bool true:=r'
    refine ⟨rfl,OldK.of_keep fun b o e=>?_,os,bare⟩
    cases q:H b with
    | none=>exact un.keep b o e q (by intro z; exact absurd (show b∈([]:List Addr) from z) (by simp)) (by simp)
    | some u=>
     rcases hO b with z | ⟨ob,xs,z⟩
     ·rw [q] at z; cases z
     ·have z2:=un.frzs b ob _ z
      obtain ⟨e1,_⟩:=hok b _ z
      obtain ⟨e2,_⟩:=hok' b _ z2
      rw [e] at e1; cases e1
      exact e2
 cases hk:K.lookup a with
 | some o=>
  have e:=KX a o hk
  rw [ha] at e
  cases e
  refine core (fun _=>none) (fun _=>.inl rfl) (.inr ⟨_,vs.toArray,_,hk,rfl,rfl,rfl,by rw [List.size_toArray,lenV]; exact hl,by simpa using rv⟩) (fun b u z=>by have z':(none:Option HO)=some u:=z; cases z') (fun b z=>absurd rfl z) fun z=>absurd rfl z
 | none=>
  refine core (fun b=>if b=a then some (.frz { cls:=.type "list",data:=.seq vs.toArray } (.lst (ns.map V.int))) else none) (fun b=>?_) (.inl (.inr ⟨{ cls:=.type "list",data:=.seq vs.toArray },if_pos rfl⟩)) (fun b u z=>?_) (fun b z=>?_) fun _=>hk
  ·by_cases hb:b=a
   ·exact .inr ⟨_,_,if_pos hb⟩
   ·exact .inl (if_neg hb)
  ·by_cases hb:b=a
   ·have z':=(if_pos hb).symm.trans z
    cases z'
    subst hb
    exact ⟨ha,by rw [Θl]; exact hl,vs,_,rv,ha⟩
   ·have z':=(if_neg hb).symm.trans z
    cases z'
  ·by_cases hb:b=a
   ·exact hb
   ·exact absurd (if_neg hb) z
theorem walk_of {l:PySem.W.OpenLaw} {n k:Nat} {q:Program} {loose:List Str} {XP:(Str->Option Value)->Heap->Prop} {YP:World->Heap->Prop} {d:DefRec} {K:Params->Θf} {CX:World->CXT} {sp:World->Sp} {x:Str}
  (hn:l.most=some n) (hn2:n<=sizeLine) (hdf:d.params.defaults=[]) (hr:Room k callerA)
  (hY:∀(w:World) (h:Heap),YP w h->(K w.params).In h)
  (F:∀(w:World) (mg:Str->Option Value) (fa:Addr) (h:Heap),(K w.params).In h->h.Ns mainGlobals mg->mg d.name=some (.ref fa)->
   ∃fd:FuncData,(∀(s:Shared) (u:Value),BindsTo s fd ⟨[u],[]⟩ [(x,u)])/\
    ∀base:Heap,(K w.params).In base->base.Ns mainGlobals mg->FnOk l.prog w (K w.params) mg base (CX w) k fa fd [x] (sp w))
  (hsp:∀(w:World) (H:Hp) (a:Addr) (ns:List Int),ns.length<=n->Zl H->SqL (K w.params) H a (ns.map V.int)->sp w [.ref a] H (fun v _=>v = .bl true) fun _ _ _=>False)
  (hCX:∀(w:World) (H:Hp) (s:Shared) (e:Value) (s':Shared),CX w [] H s (fun _ _ _=>False) e s'->False) :
  PySem.W.WalkO q loose XP YP l.row.toRowW d [] (fun f vs=>PySem.call f vs):=by
 refine Att.attach_call hn hdf fun w s₀ s₁ mg mb fa o pm cd doc a vs ns G Y ho hd hcd hmg hobj hints hlen hg=>?_
 have KX:=hY w _ Y
 obtain ⟨fd,hb,hF⟩:=F w mg fa _ KX G.T.g hmg
 exact Wa KX G.T.g G.T.b G.T.builtins G.T.nolimit hg hobj hints (Zo_ hlen hn2) hr hF hb (fun H hO hS=>hsp w H a ns hlen hO hS) fun H e s'=>hCX w H s₁ e s'
noncomputable def Au (s:Stmt) (j:Nat):Stmt:=match s with
 | .ClassDef _ _ _ body _ _ _ _ _ _ _=>body.getD j (.Pass ⟨0,0,0,0⟩)
 | _=>.Pass ⟨0,0,0,0⟩
noncomputable def K3 (s:Stmt):Arguments:=match s with
 | .FunctionDef _ a _ _ _ _ _ _ _ _=>a
 | _=>{ posonlyargs:=[],args:=[],vararg:=none,kwonlyargs:=[],kw_defaults:=[],kwarg:=none,defaults:=[] }
noncomputable def G0 (s:Stmt):List Stmt:=match s with
 | .FunctionDef _ _ b _ _ _ _ _ _ _=>b
 | _=>[]
noncomputable def B6 (s:Stmt):Scope:=match s with
 | .FunctionDef _ _ _ _ _ _ sc _ _ _=>sc
 | _=>{ kind:=.function,names:=[],isGenerator:=false,isCoroutine:=false }
noncomputable abbrev CX0:CXT:=fun _ _ _ _ _ _=>False
noncomputable abbrev E0:XK:=fun _ _ _=>False
theorem D1 {X:Cx}:U2 CX0 X E0:=fun _ _ _ _ _ _ _ h=>h.elim
structure Fun (K:Θf) (x qual:Str) (st:Stmt) (f:Addr) (fd:FuncData):Prop where
 ex:∃(oc:Value) (od:Option Addr) (kV doc pm:Value) (an:Option Addr) (cdv ct:Value) (osl:Array (Option Value)),
  fd=PySem.W.fnOf x qual (K3 st) (G0 st) (B6 st) .none kV doc pm an cdv ct/\K.lookup f=some ⟨oc,od,.func fd,osl⟩/\PySem.W.codeIn K cdv qual=true
 kp:Θk K f
section
variable {P:Program} {w:World} {K:Θf} {mg:Str->Option Value} {base:Heap}
theorem Fun.ok {x qual:Str} {st:Stmt} {f:Addr} {fd:FuncData} {N ps:List Str} {k:Nat} {sp:Sp} (F:Fun K x qual st f fd) (S:FnScope N ps (B6 st)) (len:∀vs H Q E,sp vs H Q E->vs.length=ps.length)
  (hbody:∀(cdv:Value) (A:Around) (outer:List Env) (s:Shared) (H:Hp) (vs:List V) (Q:VK) (E:XK),Room k (A.deeper (envOfC qual (B6 st) s.heap.objs.size f cdv))->sp vs H Q E->
   ∃t,PSs (T0 CX0 P w K mg base N qual (B6 st) f cdv A outer s H E).nox (G0 st) t/\t { nx:=fun _ H'=>Q .non H',rt:=Q } (S5 N vs) H):FnOk P w K mg base CX0 (k + 1) f fd ps sp:=by
 obtain ⟨oc,od,kV,doc,pm,an,cdv,ct,osl,rfl,lk,hcd⟩:=F.ex
 refine Qh lk hcd S len fun A outer s H vs Q E hr hsp=>?_
 obtain ⟨t,h,q⟩:=hbody cdv A outer s H vs Q E hr hsp
 exact ⟨t,h.nox,q⟩
theorem Fun.binds {x qual:Str} {st:Stmt} {f:Addr} {fd:FuncData} {ps:List Str} (F:Fun K x qual st f fd)
  (h:∀(kV doc pm:Value) (an:Option Addr) (cdv ct:Value) (us:List Value),us.length=ps.length->bindArgs (PySem.W.fnOf x qual (K3 st) (G0 st) (B6 st) .none kV doc pm an cdv ct) ⟨us,[]⟩=pure (ps.zip us)):Binds K fd ps []:=by
 obtain ⟨oc,od,kV,doc,pm,an,cdv,ct,osl,rfl,lk,hcd⟩:=F.ex
 exact .all (h kV doc pm an cdv ct)
theorem Bz {x qual:Str} {st:Stmt} {f:Addr} {oc:Value} {od an:Option Addr} {osl:Array (Option Value)} {kV doc pm cdv ct:Value} (l:K.lookup f=some ⟨oc,od,.func (PySem.W.fnOf x qual (K3 st) (G0 st) (B6 st) .none kV doc pm an cdv ct),osl⟩)
  (c:PySem.W.codeIn K cdv qual=true) (k:PySem.W.keepIn K (.ref f)=true):Fun K x qual st f (PySem.W.fnOf x qual (K3 st) (G0 st) (B6 st) .none kV doc pm an cdv ct):=⟨⟨oc,od,kV,doc,pm,an,cdv,ct,osl,rfl,l,c⟩,k⟩
end
theorem D4 {n:Nat} (h:n<=1000):n < sizeLine:=Nat.lt_of_le_of_lt h (by decide)
section
variable {X:Cx}
theorem pv (i:Nat) {x:Str} {pos:Pos} (hN:X.N[i]? = some x:=by rfl) (hv:Vis X.env.scope x:=by first | exact Or.inl rfl | exact Or.inr (Or.inl rfl) | exact Or.inr (Or.inr rfl)) (hd:(x == ("__debug__":Str))=false:=by decide)
  (hcd:(x == ("__classdict__":Str))=false:=by decide):PE X (.Name x pos) (Aff i):=Adh hN hv hd hcd
end
theorem K9 {A B:Prop} (h:B):if false=true then A else B:=by
 rw [if_neg Zf_]
 exact h
theorem L9 {A B:Prop} (h:A):if true=true then A else B:=by
 rw [if_pos rfl]
 exact h
theorem F7 {c A B:Prop} [Decidable c] (h1:c->A) (h2:¬c->B):if c then A else B:=by
 by_cases h:c
 ·rw [if_pos h]
  exact h1 h
 ·rw [if_neg h]
  exact h2 h
noncomputable def Same (H H':Hp):Prop:=∀b o,H b=some o->H' b=some o
theorem Same.refl (H:Hp):Same H H:=fun _ _ h=>h
theorem Same.trans {H H1 H2:Hp} (a:Same H H1) (b:Same H1 H2):Same H H2:=fun c o h=>b c o (a c o h)
theorem Same.free {H H':Hp} (e:Same H H') {l:Addr} (h:H' l=Option.none):H l=Option.none:=by
 cases q:H l with
 | none=>rfl
 | some o=>
  rw [e l o q] at h
  cases h
theorem Same.seq {K:Θf} {H H':Hp} {a:Addr} {xs:List V} (e:Same H H') (h:SqL K H a xs):SqL K H' a xs:=by
 rcases h with (h | ⟨o,h⟩) | h
 ·exact .inl (.inl (e _ _ h))
 ·exact .inl (.inr ⟨o,e _ _ h⟩)
 ·exact .inr h
end L2
set_option maxHeartbeats 4000000
namespace L2
open PySem PySem.Spec PyProof.Rows
noncomputable def clF (cells:List (Str × Addr)):List (Str × NameKind)->List (Str × Addr)->List (Str × Addr)
 | [],cs=>cs
 | (n,k) :: r,cs=>clF cells r (if k == .free then (match cells.lookup n with | some c=>(n,c) :: cs | none=>cs) else cs)
theorem Qd {cells:List (Str × Addr)}:∀(names:List (Str × NameKind)) (cs:List (Str × Addr)) (n:Str) (c:Addr),(n,c)∈clF cells names cs->(n,c)∈cs\/(cells.lookup n=some c/\(n,NameKind.free)∈names)
 | [],cs,n,c,h=>.inl h
 | (m,k) :: r,cs,n,c,h=>by
  rcases Qd r _ n c h with q | ⟨q,z⟩
  ·by_cases hk:(k == NameKind.free)=true
   ·rw [if_pos hk] at q
    have hk':k = .free:=by simpa using hk
    cases e:cells.lookup m with
    | none=>rw [e] at q; exact .inl q
    | some d=>
     rw [e] at q
     rcases Zg_.mp q with z | z
     ·cases z; exact .inr ⟨e,by rw [hk']; exact Θc⟩
     ·exact .inl z
   ·rw [if_neg hk] at q; exact .inl q
  ·exact .inr ⟨q,Θd _ z⟩
theorem Qe {cells:List (Str × Addr)}:∀(names:List (Str × NameKind)) (cs:List (Str × Addr)),∀p∈cs,p∈clF cells names cs
 | [],cs,p,h=>h
 | (m,k) :: r,cs,p,h=>by
  refine Qe r _ p ?_
  by_cases hk:(k == NameKind.free)=true
  ·rw [if_pos hk]
   cases cells.lookup m with
   | none=>exact h
   | some d=>exact Θd _ h
  ·rw [if_neg hk]; exact h
theorem Ja {cells:List (Str × Addr)}:∀(names:List (Str × NameKind)) (cs:List (Str × Addr)) (n:Str) (c:Addr),(n,NameKind.free)∈names->cells.lookup n=some c->(n,c)∈clF cells names cs
 | [],_,_,_,h,_=>nomatch h
 | (m,k) :: r,cs,n,c,h,e=>by
  rcases Zg_.mp h with z | z
  ·cases z
   refine Qe r _ _ ?_
   rw [if_pos (by rfl),e]
   exact Θc
  ·exact Ja r _ n c z e
theorem L6 {β:Type}:∀{l:List (Str × β)} {n:Str} {c:β},(n,c)∈l->∃d,l.lookup n=some d
 | (m,d) :: r,n,c,h=>by
  cases e:n == m with
  | true=>exact ⟨d,by simp [List.lookup_cons,e]⟩
  | false=>
   have e':n≠m:=by simpa using e
   rcases Zg_.mp h with z | z
   ·cases z; exact absurd rfl e'
   ·obtain ⟨q,hq⟩:=L6 z
    exact ⟨q,by simp [List.lookup_cons,e,hq]⟩
theorem L5 {cells:List (Str × Addr)} {names:List (Str × NameKind)} {n:Str} {c:Addr} (h:(clF cells names []).lookup n=some c):cells.lookup n=some c/\(n,NameKind.free)∈names:=by
 rcases Qd names [] n c (PySem.mem_of_lookup h) with z | z
 ·cases z
 ·exact z
theorem Z2 {env:Env} {scope:Scope} (hf:∀n,(n,NameKind.free)∈scope.names->∃c,env.cells.lookup n=some c):closureFor scope env=pure (clF env.cells scope.names []):=by
 have go:∀(l:List (Str × NameKind)) (cs:List (Str × Addr)),(∀n,(n,NameKind.free)∈l->∃c,env.cells.lookup n=some c)->
   (forIn l cs (fun x r=>match x with | (name,kind)=>if (kind == NameKind.free)=true then do
    let y <-cellOf env name
    pure (ForInStep.yield ((name,y) :: r)) else pure (ForInStep.yield r)):Sem (List (Str × Addr)))=pure (clF env.cells l cs):=by
  intro l
  induction l with
  | nil=>intro cs _; rfl
  | cons x r ih=>
   intro cs h
   obtain ⟨n,k⟩:=x
   rw [List.forIn_cons]
   by_cases hk:(k == NameKind.free)=true
   ·have hk':k = .free:=by simpa using hk
    obtain ⟨c,e⟩:=h n (by rw [hk']; exact Θc)
    have ec:cellOf env n=pure c:=by unfold cellOf; rw [e]
    simp only [hk,if_true,ec,pure_bind]
    rw [ih _ fun m hm=>h m (Θd _ hm)]
    show _=pure (clF env.cells r _)
    rw [if_pos hk,e]
   ·have hk':(k == NameKind.free)=false:=by simpa using hk
    have e1:=ih cs fun m hm=>h m (Θd _ hm)
    show (((if (k == NameKind.free)=true then _ else pure (ForInStep.yield cs)):Sem _) >>= _)=_
    rw [if_neg hk,pure_bind]
    refine Eq.trans e1 ?_
    show _=pure (clF env.cells r _)
    rw [if_neg hk]
 unfold closureFor
 have:=go scope.names [] hf
 rw [bind_pure]
 exact this
structure CScope (X:Cx) (xs:List Str) (sc:Scope):Prop where
 kind:sc.kind = .function
 nocell:∀y∈sc.names,y.2≠.cell
 names:∀y∈sc.names,y.2 = .local->sc.names.lookup y.1=some .local
 own:∀x∈xs,sc.names.lookup x=some .local
 sep:∀y∈X.N,sc.names.lookup y≠some .local
 frees:∀y∈sc.names,y.2 = .free->X.env.kindOf y.1=some .cell\/X.env.kindOf y.1=some .free
 nd:(xs++X.N).Nodup
noncomputable def cxC (X:Cx) (xs:List Str) (sc:Scope) (ex:List Addr) (s:Shared) (H:Hp):Cx where
 prog:=X.prog
 w:=X.w
 K:=X.K
 mg:=X.mg
 base:=X.base
 A:=X.A
 N:=xs++X.N
 s₀:=s
 H₀:=H
 env:=compEnvC sc (clF X.env.cells sc.names []) s.heap.objs.size X.env
 outer:=X.stack
 stack:=X.stack
 ex:=ex
 fn:=fun _=>false
 calm:=X.calm
 pn:=[]
 xe:=fun _ _=>False
theorem R4 (env:Env) (x:Str):∀names:List (Str × NameKind),
  (names.map fun (n,k)=>if (k == NameKind.free && env.scope.kind == .function && env.kindOf n == some .cell) then (n,NameKind.cell) else (n,k)).lookup x =
   (names.lookup x).map fun k=>if (k == NameKind.free && env.scope.kind == .function && env.kindOf x == some .cell) then NameKind.cell else k
 | []=>rfl
 | (n,k) :: r=>by
  have ih:=R4 env x r
  show List.lookup x ((if (k == NameKind.free && env.scope.kind == .function && env.kindOf n == some .cell)=true then (n,NameKind.cell) else (n,k)) :: _)=_
  cases hx:x == n with
  | true=>
   have e:x=n:=by simpa using hx
   subst e
   by_cases hc:(k == NameKind.free && env.scope.kind == .function && env.kindOf x == some .cell)=true
   ·rw [if_pos hc]
    simp only [List.lookup_cons,hx,Option.map_some]
    rw [if_pos hc]
   ·rw [if_neg hc]
    simp only [List.lookup_cons,hx,Option.map_some]
    rw [if_neg hc]
  | false=>
   by_cases hc:(k == NameKind.free && env.scope.kind == .function && env.kindOf n == some .cell)=true
   ·rw [if_pos hc]; simp only [List.lookup_cons,hx]; exact ih
   ·rw [if_neg hc]; simp only [List.lookup_cons,hx]; exact ih
theorem Nc {sc:Scope} {env:Env} {x:Str} (h:Vis (relabel sc env) x) (hl:sc.names.lookup x≠some .local) (hc:∀y∈sc.names,y.2≠.cell) :
  (x,NameKind.free)∈sc.names/\((relabel sc env).names.lookup x=some .cell\/(relabel sc env).names.lookup x=some .free):=by
 have e:(relabel sc env).names.lookup x=_:=R4 env x sc.names
 unfold Vis at h
 rw [e] at h
 cases k:sc.names.lookup x with
 | none=>rw [k] at h; simp at h
 | some v=>
  have mem:=PySem.mem_of_lookup k
  have nl:v≠.local:=fun z=>hl (by rw [k,z])
  have ncl:v≠.cell:=fun z=>hc _ mem z
  rw [k] at h
  rw [e,k]
  simp only [Option.map_some] at h ⊢
  by_cases hv:v = .free
  ·subst hv
   refine ⟨mem,?_⟩
   split
   ·exact .inl rfl
   ·exact .inr rfl
  ·have:(v == NameKind.free)=false:=by simpa using hv
   simp only [this,Bool.false_and] at h
   rcases h with h | h | h
   ·exact absurd (Θo h) nl
   ·exact absurd (Θo h) ncl
   ·exact absurd (Θo h) hv
section
variable {X:Cx} {pins:List (Addr × Obj)} {σ:St} {H:Hp} {s:Shared} {xs:List Str} {sc:Scope} {ex:List Addr}
theorem CScope.cells (S:CScope X xs sc) (ok:X.Ok):∀n,(n,NameKind.free)∈sc.names->∃c,X.env.cells.lookup n=some c:=fun n h=>ok.has n (S.frees _ h rfl)
theorem Acd (S:CScope X xs sc) (I:Inv X pins σ H s) (he:∀b∈ex,b < s.heap.objs.size/\b∉frs X.stack/\(∀x c,X.env.cells.lookup x=some c->c≠b)/\X.base.get? b=none):(cxC X xs sc ex s H).Ok:=by
 refine ⟨I.ok.mod,S.kind,I.ok.glob,I.ok.blt,Zd_ _,fun x y c h1 h2=>?_,fun x hx=>?_,fun _ _ h=>(by cases h),I.ok.hd,I.ok.frames,.inl rfl,fun b hb=>⟨Zs_ (he b hb).1,fun x c h=>(he b hb).2.2.1 x c (L5 h).1⟩,fun b o e=>?_,?_,fun b o e hb=>?_,fun b hb=>(he b hb).2.1,I.stack,I.stkFree⟩
 ·exact I.ok.inj x y c (L5 h1).1 (L5 h2).1
 ·have hv:(relabel sc X.env).names.lookup x=some .cell\/(relabel sc X.env).names.lookup x=some .free:=hx
  have q:(x,NameKind.free)∈sc.names:=by
   have e:(relabel sc X.env).names.lookup x=_:=R4 X.env x sc.names
   rw [e] at hv
   cases k:sc.names.lookup x with
   | none=>rw [k] at hv; simp at hv
   | some v=>
    have mem:=PySem.mem_of_lookup k
    rw [k] at hv
    simp only [Option.map_some] at hv
    by_cases hvf:v = .free
    ·rw [hvf] at mem; exact mem
    ·have:(v == NameKind.free)=false:=by simpa using hvf
     simp only [this,Bool.false_and] at hv
     rcases hv with h | h
     ·exact absurd (Θo h) (S.nocell _ mem)
     ·exact absurd (Θo h) hvf
  obtain ⟨c,e⟩:=S.cells I.ok x q
  exact L6 (Ja sc.names [] x c q e)
 ·exact I.bs b o e
 ·exact Zo_ I.ok.bsz I.sz
 ·have q:X.base.get? b=none:=(he b hb).2.2.2
  have e':X.base.get? b=some o:=e
  rw [q] at e'; cases e'
theorem Lm {h₁:Heap} {tk:Nat} (S:CScope X xs sc) (I:Inv X pins σ H s) (he:∀b∈ex,b < s.heap.objs.size/\b∉frs X.stack/\(∀x c,X.env.cells.lookup x=some c->c≠b)/\X.base.get? b=none)
  (hn:h₁.Ns s.heap.objs.size (fun _=>none)) (hk:∀b o,s.heap.get? b=some o->h₁.get? b=some o) :
  Inv (cxC X xs sc ex s H) [] (List.replicate xs.length none++σ) H { s with heap:=h₁,toks:=tk }:=by
 have I1:Inv X pins σ H { s with heap:=h₁,toks:=tk }:=I.kept hk
 refine ⟨Acd S I he,rfl,I.bare,Un.kept hk,⟨_,hn,fun i x v h1 h2 h3=>?_⟩,fun x c h=>I1.cell x c (L5 h).1,I.hok.fresh (Nat.le_refl _),fun x c h=>I.freeC x c (L5 h).1,fun p hp=>absurd (show p∈([]:List (Addr × Obj)) from hp) (by simp),I.hok.kept hk,?_⟩
 ·have h1':(xs++X.N)[i]? = some x:=h1
  by_cases hi:i < xs.length
  ·rw [List.getElem?_append_left (by simpa using hi),List.getElem?_replicate,if_pos hi] at h2
   cases h2
  ·have hi':xs.length<=i:=Nat.le_of_not_lt hi
   rw [List.getElem?_append_right (by simpa using hi')] at h2
   rw [ZD hi'] at h1'
   rw [List.length_replicate] at h2
   have hm:x∈X.N:=Θe h1'
   obtain ⟨hf,hkd⟩:=Nc h3 (S.sep x hm) S.nocell
   have hko:=S.frees _ hf rfl
   obtain ⟨m,_,hl⟩:=I1.loc
   obtain ⟨u,r,l⟩:=hl (i - xs.length) x v h1' h2 (by
    rcases hko with z | z
    ·exact .inr (.inl z)
    ·exact .inr (.inr z))
   refine ⟨u,r,.inr ⟨hkd,?_⟩⟩
   rcases l with ⟨z,_⟩ | ⟨_,c,ec,hc⟩
   ·rcases hko with q | q <;> (rw [q] at z; cases z)
   ·obtain ⟨d,ed⟩:=L6 (Ja sc.names [] x c hf ec)
    have:c=d:=by
     have:=(L5 ed).1
     rw [ec] at this
     exact Θo this
    subst this
    exact ⟨c,ed,hc⟩
 ·show (List.replicate xs.length none++σ).length=(xs++X.N).length
  rw [Zv_,Zv_,List.length_replicate,I.len]
end
section
variable {prog:Program} {w:World} {A:Around} {R:Result->Shared->Prop} {s:Shared}
theorem Lc {elt target iter:Expr} {ifs:List Expr} {scope:Scope} {pos:Pos} {it acc:Value} {env:Env} {EE:Value->Shared->Prop} (hee:∀x s',EE x s'->notedBy (model prog w) A env (fun x s''=>R (.error x) s'') x s') (I:Nat->Shared->Prop)
  (turn:∀n s,I n s->wpAny (model prog w) A (pyNext it) (fun r s₁=>match r with
   | none=>R (.ok .next) s₁
   | some v=>wpAny (model prog w) A (letOwnedTupleGo target it v) (fun _ s₁'=>wpAny (model prog w) A (assign target env v) (fun _ s₂=>
     wpAny (model prog w) A (forIn ifs true fun c r=>if r=true then do let ok <-isTrue c env (eval c env); pure (ForInStep.yield ok) else pure (ForInStep.yield r)) (fun ok s₃=>
      if ok=true then wpAny (model prog w) A (eval elt env) (fun x s₄=>
       wpAny (model prog w) A (call (.builtin "list.append") [acc,x]) (fun _ s₅=>∃m,m < n/\I m s₅) EE s₄) EE s₃
      else ∃m,m < n/\I m s₃) EE s₂) EE s₁') EE s₁) EE s)
  (n:Nat) (h:I n s) :
  codeAny (model prog w) A (.compLoop (.ListComp elt [⟨target,iter,ifs,0⟩] scope pos) 0 it acc env) R s:=by
 refine codeAny_loop rfl I (fun n s hI=>?_) n h
 show wpAny _ A ((compTurn (.ListComp elt [⟨target,iter,ifs,0⟩] scope pos) 0 it acc env).onRaise (fun x=>do noteFrame x env; theTreesLotGoes x)) _ _ s
 refine wpAny_noted ?_
 rw [compTurn_list]
 refine Za_ (wpAny_standAt (Za_ (wpAny_mono (turn n s hI) (fun r s₁ h₁=>?_) hee)))
 cases r with
 | none=>exact Zb_ h₁
 | some v=>
  refine Za_ (wpAny_mono h₁ (fun _ s₁' h₁'=>?_) hee)
  refine Za_ (wpAny_mono h₁' (fun _ s₂ h₂=>Za_ (wpAny_mono h₂ (fun ok s₃ h₃=>?_) hee)) hee)
  cases ok with
  | false=>exact Zb_ ⟨rfl,h₃⟩
  | true=>
   exact Za_ (Za_ (wpAny_mono h₃ (fun x s₄ h₄=>Za_ (wpAny_mono h₄ (fun _ s₅ h₅=>Zb_ (Zb_ ⟨rfl,h₅⟩)) hee)) hee))
end
noncomputable def PTs (X:Cx) (ifs:List Expr) (t:TT):Prop:=
 ∀(pins:List (Addr × Obj)) (s:Shared) (σ:St) (H:Hp) (Q:Bool->Hp->Prop),Inv X pins σ H s->t σ H Q->
  wpAny (model X.prog X.w) X.A (forIn ifs true fun c r=>if r=true then do let ok <-isTrue c X.env (eval c X.env); pure (ForInStep.yield ok) else pure (ForInStep.yield r)) (TP X pins σ Q) X.xe s
noncomputable def Agf:TT:=fun _ H Q=>Q true H
theorem K7 {X:Cx}:PTs X [] Agf:=fun _ _ _ H _ I h=>wpAny_tests_nil ⟨H,I,h⟩
theorem Y4 {X:Cx} {c:Expr} {t:TT} (h:PT X c t):PTs X [c] t:=fun pins s σ H Q I q=>wpAny_tests_one (h pins s σ H Q I q)
section
variable {X:Cx} {pins:List (Addr × Obj)} {σ:St} {H:Hp} {s2:Shared} {tg iter elt:Expr} {ifs:List Expr} {sc:Scope} {pos:Pos} {xs:List Str} {g:TG} {tc:TT} {te:TE} {J:It} {fp:List Addr} {it:Addr} {tn:Nat->Heap->Prop}
theorem HOk.adopt {P:Program} {w:World} {H:Hp} {h:Heap} {a:Addr} {xs:List V} {its:List Value} {n:Nat} (x:HOk P w H h) (hn:H a=none) (hz:xs.length<=sizeLine) (r:Vals xs its) (e:h.get? a=some { cls:=.type "list",data:=.seq its.toArray n }) :
  HOk P w (upd H a (.lst xs)) h:=fun b u q=>by
 by_cases hb:b=a
 ·subst hb; rw [A6] at q; cases q; exact ⟨hz,its,n,r,e⟩
 ·rw [C8 hb] at q
  exact (x b u q).stay (fun c v _ q=>q) (fun c q=>by rw [C8 (C4 q hn)]; exact q) fun c xs q=>by rw [C8 (C4 q hn)]; exact q
theorem Gu {X':Cx} {RR:Value->Addr->Result->Shared->Prop} {kk tk:Nat} {H3 h₁:Heap} (hg':PG X' tg g) (ht':PTs X' ifs tc) (he':PE X' elt te)
  (I:Inv X pins σ H s2) (T:Turn X.prog X.w X.K tg J fp it tn) (st:tn 0 s2.heap) (f2:∀b∈fp,FpOk X pins H b)
  (W:Nat->Nat->List V->Hp->Prop) (w0:∃m,W 0 m [] H) (F:List V->Hp->Prop)
  (turn:∀i m acc H,W i m acc H->(J.stop i H/\acc.length<=sizeLine/\F acc H)\/
   (J.go i H/\acc.length < sizeLine/\∃N:List V->Hp->Prop,(∀acc' H',N acc' H'->∃m',m' < m/\W (i + 1) m' acc' H')/\∀x H',J.yld i H x H'->g x (List.replicate kk none++σ) H' fun σ2 H2=>σ2.drop kk=σ/\tc σ2 H2 fun c H3=>
    if c=true then te σ2 H3 fun y H4=>N (acc++[y]) H4 else N acc H3))
  (fin:∀D C s' acc H',(∃m,s'.heap.Ns C m)->FpOk X pins (upd H' D (.lst acc)) C->F acc H'->H' D=none->Inv X pins σ (upd H' D (.lst acc)) s'->RR (.ref D) C (.ok .next) s')
  (hH3:s2.heap.push { cls:=.type "list",dict:=none,data:=.seq ([]:List Value).toArray }=H3) (k1:∀b o,H3.get? b=some o->h₁.get? b=some o)
  (I4:Inv X pins σ H { s2 with heap:=H3 }->(∀b∈(s2.heap.objs.size :: fp),b < H3.objs.size/\b∉frs X.stack/\(∀x c,X.env.cells.lookup x=some c->c≠b)/\X.base.get? b=none)->Inv X' [] (List.replicate kk none++σ) H { s2 with heap:=h₁,toks:=tk })
  (cell1:∀x c,X'.env.cells.lookup x=some c->c=H3.objs.size + 1\/X.env.cells.lookup x=some c)
  (eX:X'.ex=s2.heap.objs.size :: fp/\X'.env.locals=H3.objs.size/\X'.fs=frs X.stack/\X'.pn=[]/\X'.prog=X.prog/\X'.w=X.w/\X'.K=X.K/\X'.calm=true/\X'.A=X.A/\(∀x s',X'.xe x s'->notedBy (model X.prog X.w) X.A X'.env (fun x s''=>RR (.ref s2.heap.objs.size) H3.objs.size (.error x) s'') x s')/\X'.s₀.heap=H3/\X'.H₀=H/\X'.s₀.os=s2.os) :
  codeAny (model X.prog X.w) X.A (.compStart (.ListComp elt [⟨tg,iter,ifs,0⟩] sc pos) 0 (.ref it) (.ref s2.heap.objs.size) X'.env) (RR (.ref s2.heap.objs.size) H3.objs.size) { s2 with heap:=h₁,toks:=tk }:=by
 obtain ⟨eXex,eXloc,eXfs,eXpn,eP,ew,eK,ec,eA,exe,hs0,hH0,hos⟩:=eX
 have hC:H3.objs.size=s2.heap.objs.size + 1:=by rw [<-hH3,Heap.size_push]
 have hDC:s2.heap.objs.size≠H3.objs.size:=by rw [hC]; exact Zs_ (Nat.lt_succ_self _)
 have old3:∀b o,s2.heap.get? b=some o->H3.get? b=some o:=fun b o e=>hH3 ▸ Zc_ _ e
 have fpLt:∀b∈fp,b < s2.heap.objs.size:=fun b hb=>by
  obtain ⟨o,e,_⟩:=T.obj _ _ st b hb
  exact Zn_ e
 have hnofr:∀b,s2.heap.objs.size<=b->b∉frs X.stack:=fun b hb z=>by
  rcases Zg_.mp (I.stkSub b z) with q | q
  ·exact absurd (Zq_ I.lt hb) (by rw [q]; exact Nat.lt_irrefl _)
  ·exact I.nofs hb q
 have hnocell:∀b,s2.heap.objs.size<=b->∀x c,X.env.cells.lookup x=some c->c≠b:=fun b hb x c e z=>by
  obtain ⟨v,q⟩:=I.cell x c e
  exact absurd (Zq_ q.lt (by rw [z]; exact hb)) (Nat.lt_irrefl _)
 have hnobase:∀b,s2.heap.objs.size<=b->X.base.get? b=none:=fun b hb=>Heap.get?_none_of_le (Zo_ (Zo_ I.ok.bsz I.sz) hb)
 have fpfr:∀b∈fp,b∉frs X.stack:=fun b hb z=>by
  rcases Zg_.mp (I.stkSub b z) with q | q
  ·exact (f2 b hb).2.1 q
  ·exact (f2 b hb).2.2.1 q
 have fpbase:∀b∈fp,X.base.get? b=none:=fun b hb=>by
  rcases (f2 b hb).2.2.2.1 with z | z
  ·cases e:X.base.get? b with
   | none=>rfl
   | some o=>exact absurd z (I.ok.noex b o e)
  ·exact Heap.get?_none_of_le (Zo_ I.ok.bsz z)
 have hex:∀b∈(s2.heap.objs.size :: fp),b < H3.objs.size/\b∉frs X.stack/\(∀x c,X.env.cells.lookup x=some c->c≠b)/\X.base.get? b=none:=fun b hb=>by
  rcases Zg_.mp hb with z | z
  ·subst z
   exact ⟨by rw [hC]; exact Nat.lt_succ_self _,hnofr _ (Zd_ _),hnocell _ (Zd_ _),hnobase _ (Zd_ _)⟩
  ·exact ⟨by rw [hC]; exact Nat.lt_succ_of_lt (fpLt b z),fpfr b z,(f2 b z).2.2.2.2.1,fpbase b z⟩
 have I4:=I4 (I.kept old3) hex
 have hDn:H s2.heap.objs.size=none:=I.hok.fresh (Zd_ _)
 have hDobj:h₁.get? s2.heap.objs.size=some { cls:=.type "list",data:=.seq (([]:List Value)).toArray 0 }:=k1 _ _ (hH3 ▸ Zm_ _ rfl)
 have st1:tn 0 h₁:=T.keep _ _ _ st fun b _ o e=>k1 b o (old3 b o e)
 obtain ⟨m0,w0⟩:=w0
 have loop:∀s₃:Shared,s₃={ s2 with heap:=h₁,toks:=tk }->
   codeAny (model X.prog X.w) X.A (.compLoop (.ListComp elt [⟨tg,iter,ifs,0⟩] sc pos) 0 (.ref it) (.ref s2.heap.objs.size) X'.env) (RR (.ref s2.heap.objs.size) H3.objs.size) s₃:=by
  rintro s₃ rfl
  refine Lc exe (fun n s'=>∃i acc its k H',Inv X' [] (List.replicate kk none++σ) H' s'/\tn i s'.heap/\(∀b∈fp,H' b=none)/\H' s2.heap.objs.size=none/\Vals acc its/\
   s'.heap.get? s2.heap.objs.size=some { cls:=.type "list",data:=.seq its.toArray k }/\W i n acc H') ?_ m0
   ⟨0,[],[],0,H,I4,st1,fun b hb=>(f2 b hb).1,hDn,.nil,hDobj,w0⟩
  rintro n s' ⟨i,acc,its,k,H',I',st',fr',hD',rv,hobj,w'⟩
  have fpok:∀{o:Obj} {H'':Hp},(∀b∈fp,H'' b=none)->∀b∈fp,FpOk X' [(s2.heap.objs.size,o)] H'' b:=fun {o H''} hn b hb=>by
   refine ⟨hn b hb,by rw [eXloc,hC]; exact Zs_ (Nat.lt_succ_of_lt (fpLt b hb)),by rw [eXfs]; exact fpfr b hb,.inl (by rw [eXex]; exact Θd _ hb),fun x c e=>?_,fun p hp=>?_⟩
   ·rcases cell1 x c e with z | z
    ·rw [z,hC]
     exact Nat.ne_of_gt (Nat.lt_succ_of_lt (Nat.lt_succ_of_lt (fpLt b hb)))
    ·exact (f2 b hb).2.2.2.2.1 x c z
   ·rw [eXpn] at hp
    have:p=(s2.heap.objs.size,o):=by simpa using hp
    rw [this]
    exact Nat.ne_of_gt (fpLt b hb)
  have pinD:∀{H'':Hp} {s'':Shared} {σ'':St} {o:Obj},Inv X' [] σ'' H'' s''->s''.heap.get? s2.heap.objs.size=some o->(∀v,o.data≠.cell v)->H'' s2.heap.objs.size=none->Inv X' [(s2.heap.objs.size,o)] σ'' H'' s'':=fun {H'' s'' σ'' o} J e d hn=>
   J.pins_of fun p hp=>by
    have:p=(s2.heap.objs.size,o):=by simpa using hp
    rw [this]
    exact ⟨e,hn,by rw [eXloc]; exact hDC,by rw [eXfs]; exact hnofr _ (Zd_ _),d⟩
  have J:=pinD I' hobj (fun v=>by intro z; cases z) hD'
  rw [<-eP,<-ew,<-eA]
  rcases turn i n acc H' w' with ⟨stop,hz,hF⟩ | ⟨go,hz,N,hN,step⟩
  ·have q1:wpAny (model X'.prog X'.w) X'.A (pyNext (.ref it)) (fun r s1=>r=none/\Inv X' [(s2.heap.objs.size,{ cls:=.type "list",data:=.seq its.toArray k })] (List.replicate kk none++σ) H' s1) X'.xe s':=by
    have:=T.done X' eP ew eK ec i _ s' _ H' X'.xe J (fpok fr') st' stop
    rw [eP,ew]; exact this
   refine thn q1 fun r s1 h1=>?_
   obtain ⟨hr,J1⟩:=h1
   subst hr
   have e1:=J1.pin (s2.heap.objs.size,{ cls:=.type "list",data:=.seq its.toArray k }) (Zh_ _ Θc)
   have un:Un (frs X.stack) (s2.heap.objs.size :: fp) H H' H3 s1.heap:=by
    have:=J1.base
    rw [eXfs,eXex,hH0,hs0] at this
    exact this
   have hok1:HOk X.prog X.w H' s1.heap:=by have:=J1.hok; rw [eP,ew] at this; exact this
   obtain ⟨mC,hmC,_⟩:=J1.loc
   have hmC':s1.heap.Ns H3.objs.size mC:=by rw [eXloc] at hmC; exact hmC
   have hCfree:H' H3.objs.size=none:=by have:=J1.free; rw [eXloc] at this; exact this
   refine fin _ _ s1 acc H' ⟨mC,hmC'⟩ ?_ hF e1.2.1 ?_
   ·refine I.fpOk (by rw [hC]; exact Nat.le_succ _) ?_
    rw [C8 (Ne.symm hDC)]
    exact hCfree
   ·refine I.call' (ch:=fp) (J1.os.trans hos) ?_ (hok1.adopt e1.2.1 hz rv e1.1) J1.bare fun b hb=>⟨(f2 b hb).2.2.2.1,(f2 b hb).2.1,(f2 b hb).2.2.2.2.1,(f2 b hb).2.2.2.2.2⟩
    have below:∀b o,s2.heap.get? b=some o->b≠s2.heap.objs.size:=fun b o e=>Zs_ (Zn_ e)
    have nin:∀b o,s2.heap.get? b=some o->b∉fp->b∉s2.heap.objs.size :: fp:=fun b o e hb z=>(Zg_.mp z).elim (below b o e) hb
    have trkne:∀b u,H b=some u->b≠s2.heap.objs.size:=fun b u e z=>by rw [z,hDn] at e; cases e
    refine ⟨fun b o e n hf hb=>un.keep b o (old3 b o e) n hf (nin b o e hb),fun b o e n hf hb=>un.slot b o (old3 b o e) n hf (nin b o e hb),fun b o e n hb=>?_,fun b o e hb=>un.there b o (old3 b o e) (nin b o e hb),fun b ys e=>?_,fun b o u e=>?_,fun b ps e=>?_⟩
    ·rw [C8 (below b o e)]; exact un.free b o (old3 b o e) n (nin b o e hb)
    ·rw [C8 (trkne b _ e)]; exact un.tups b ys e
    ·rw [C8 (trkne b _ e)]; exact un.frzs b o u e
    ·rw [C8 (trkne b _ e)]; exact un.tbls b ps e
  ·have q1:=T.item X' eP ew eK ec i _ s' _ H' X'.xe J (fpok fr') st' go
   rw [<-eP,<-ew] at q1
   have q2:=q1
   refine thn q2 fun r s1 h1=>?_
   obtain ⟨u,hr,h4⟩:=h1
   subst hr
   dsimp only
   refine thn h4 fun _ s5 ⟨x,H5,J5,r5,y5,st5,fr5⟩=>?_
   have J5':=J5.pinned (fpok fr5) (T.obj _ _ st5)
   have q5:=hg' _ s5 _ H5 x u _ J5' r5 (step x H5 y5)
   refine thn q5 fun _ s6 ⟨σ6,H6,J6,hσ,q6⟩=>?_
   have q7:=ht' _ s6 σ6 H6 _ J6 q6
   refine thn q7 fun ok s7 ⟨H7,J7,q7⟩=>?_
   have lenσ:∀{H8:Hp} {s8:Shared} {pl:List (Addr × Obj)},Inv X' pl σ6 H8 s8->(List.replicate kk none++σ).length=σ6.length:=fun {H8 s8 pl} J8=>J6.len.symm ▸ I4.len
   have weak:∀{H8:Hp} {s8:Shared} {pl:List (Addr × Obj)},Inv X' pl σ6 H8 s8->Inv X' pl (List.replicate kk none++σ) H8 s8:=fun {H8 s8 pl} J8=>by
    refine J8.weak (lenσ J8) fun j v e=>?_
    by_cases hj:j < kk
    ·rw [List.getElem?_append_left (by simpa using hj),List.getElem?_replicate,if_pos hj] at e
     cases e
    ·have hj':kk<=j:=Nat.le_of_not_lt hj
     rw [List.getElem?_append_right (by simpa using hj'),List.length_replicate,<-hσ,List.getElem?_drop] at e
     rw [<-e]
     congr 1
     omega
   have back:∀{H8:Hp} {s8:Shared},Inv X' ([(s2.heap.objs.size,{ cls:=.type "list",data:=.seq its.toArray k })]++Fh fp s5.heap) σ6 H8 s8->
     Inv X' [] (List.replicate kk none++σ) H8 s8/\tn (i + 1) s8.heap/\(∀b∈fp,H8 b=none)/\H8 s2.heap.objs.size=none/\s8.heap.get? s2.heap.objs.size=some { cls:=.type "list",data:=.seq its.toArray k }:=fun {H8 s8} J8=>by
    have eD:=J8.pin (s2.heap.objs.size,{ cls:=.type "list",data:=.seq its.toArray k }) (Zh_ _ (Zt_ _ Θc))
    refine ⟨(weak J8).pins_of fun p hp=>absurd hp (by simp),T.keep _ _ _ st5 fun b hb o e=>(J8.pin (b,o) (List.mem_append_right _ (List.mem_append_right _ (U8 hb e)))).1,fun b hb=>?_,eD.2.1,eD.1⟩
    obtain ⟨o,e,d⟩:=T.obj _ _ st5 b hb
    exact (J8.pin (b,o) (Zh_ _ (Zh_ _ (U8 hb e)))).2.1
   cases ok with
   | false=>
    simp only [Bool.false_eq_true,if_false] at q7 ⊢
    obtain ⟨m',hm,w7⟩:=hN _ _ q7
    obtain ⟨a1,a2,a3,a4,a5⟩:=back J7
    exact ⟨m',hm,i + 1,acc,its,k,H7,a1,a2,a3,a4,rv,a5,w7⟩
   | true=>
    simp only [if_true] at q7 ⊢
    have q8:=he' _ s7 σ6 H7 _ J7 q7
    refine thn q8 fun u8 s8 ⟨y,H8,J8,r8,q9⟩=>?_
    obtain ⟨m',hm,w8⟩:=hN _ _ q9
    obtain ⟨a1,a2,a3,a4,a5⟩:=back J8
    have hits:its.length=acc.length:=rv.length.symm
    refine wpAny_list_append_plain (hsz:=by show its.toArray.size<=sizeLine; rw [Zx_,hits]; exact Nat.le_of_lt hz) ⟨k,a5⟩ fun h9 hl9 hs9=>?_
    obtain ⟨k9,e9⟩:=hl9
    refine ⟨m',hm,i + 1,acc++[y],its++[u8],k9,H8,?_,?_,a3,a4,rv.append (.cons r8 .nil),?_,w8⟩
    ·exact a1.turned (t':=s8.toks) (fun b o hb e=>hs9.extBut b o hb e) a4 (by rw [eXloc]; exact hDC) (.inl (by rw [eXex]; exact Θc)) (fun x c e=>by
      rcases cell1 x c e with z | z
      ·rw [z,hC]; exact Nat.ne_of_gt (Nat.lt_succ_of_lt (Nat.lt_succ_self _))
      ·exact hnocell _ (Nat.le_refl _) x c z) (fun p hp=>by rw [eXpn] at hp; simp at hp)
    ·exact T.keep _ _ _ a2 fun b hb o e=>hs9.extBut b o (Zs_ (fpLt b hb)) e
    ·rw [e9]
     congr 2
     simp
 exact codeAny_compStart_list (loop _ rfl) (T.self X.A 0 _ _ _ st1 (loop _ rfl))
theorem Gs {E:Value->Shared->Prop} {RR:Value->Addr->Result->Shared->Prop} (S:CScope X xs sc) (hcalm:X.calm=true)
  (hg:∀ex s3 H3,PG (cxC X xs sc ex s3 H3) tg g) (ht:∀ex s3 H3,PTs (cxC X xs sc ex s3 H3) ifs tc) (he:∀ex s3 H3,PE (cxC X xs sc ex s3 H3) elt te)
  (I:Inv X pins σ H s2) (T:Turn X.prog X.w X.K tg J fp it tn) (st:tn 0 s2.heap) (f2:∀b∈fp,FpOk X pins H b)
  (W:Nat->Nat->List V->Hp->Prop) (w0:∃m,W 0 m [] H) (F:List V->Hp->Prop)
  (turn:∀i m acc H,W i m acc H->(J.stop i H/\acc.length<=sizeLine/\F acc H)\/
   (J.go i H/\acc.length < sizeLine/\∃N:List V->Hp->Prop,(∀acc' H',N acc' H'->∃m',m' < m/\W (i + 1) m' acc' H')/\∀x H',J.yld i H x H'->g x (List.replicate xs.length none++σ) H' fun σ2 H2=>σ2.drop xs.length=σ/\tc σ2 H2 fun c H3=>
    if c=true then te σ2 H3 fun y H4=>N (acc++[y]) H4 else N acc H3))
  (fin:∀D C s' acc H',(∃m,s'.heap.Ns C m)->FpOk X pins (upd H' D (.lst acc)) C->F acc H'->H' D=none->Inv X pins σ (upd H' D (.lst acc)) s'->RR (.ref D) C (.ok .next) s') :
  wpAny (model X.prog X.w) X.A (newList []) (fun acc s3=>wpAny (model X.prog X.w) X.A (newFunctionEnv sc X.env.globals (clF X.env.cells sc.names []) [] X.env.qual none .none (some X.env)) (fun cenv s4=>
   codeAny (model X.prog X.w) X.A (.compStart (.ListComp elt [⟨tg,iter,ifs,0⟩] sc pos) 0 (.ref it) acc { cenv with scope:=relabel sc X.env }) (RR acc cenv.locals) s4) E s3) E s2:=by
 refine wpAny_newObj_type (wpAny_newFunctionEnv S.nocell (by intro y hy; simp at hy) (fun h₁ hns₁ hsb₁=>?_) S.kind)
 dsimp only at hns₁ hsb₁ ⊢
 generalize hH3:s2.heap.push { cls:=.type "list",dict:=none,data:=.seq ([]:List Value).toArray }=H3 at hns₁ hsb₁ ⊢
 have k1:∀b o,H3.get? b=some o->h₁.get? b=some o:=fun b o e=>hsb₁.extBut b o (Zs_ (Zn_ e)) (Zc_ _ e)
 exact Gu (X':=cxC X xs sc (s2.heap.objs.size :: fp) { s2 with heap:=H3 } H) (hg _ _ _) (ht _ _ _) (he _ _ _) I T st f2 W w0 F turn fin hH3 k1 (fun I3 hex=>Lm S I3 hex hns₁ k1) (fun x c e=>.inr (L5 e).1) ⟨rfl,rfl,rfl,rfl,rfl,rfl,rfl,hcalm,rfl,fun _ _ z=>False.elim z,rfl,rfl,rfl⟩
end
noncomputable def LCW (n:Nat) (J:It) (g:TG) (tc:TT) (te:TE) (σ:St) (H1:Hp) (F:List V->Hp->Prop):Prop:=
 ∃W:Nat->Nat->List V->Hp->Prop,(∃m,W 0 m [] H1)/\∀i m acc H,W i m acc H->(J.stop i H/\acc.length<=sizeLine/\F acc H)\/
  (J.go i H/\acc.length < sizeLine/\∃N:List V->Hp->Prop,(∀acc' H',N acc' H'->∃m',m' < m/\W (i + 1) m' acc' H')/\∀x H',J.yld i H x H'->g x (List.replicate n none++σ) H' fun σ2 H2=>σ2.drop n=σ/\tc σ2 H2 fun c H3=>
   if c=true then te σ2 H3 fun y H4=>N (acc++[y]) H4 else N acc H3)
noncomputable def tLC (n:Nat) (wi:TI) (g:TG) (tc:TT) (te:TE):TE:=fun σ H Q=>wi σ H fun J H1=>LCW n J g tc te σ H1 fun acc H=>∀p,H p=none->Q (.ref p) (upd H p (.lst acc))
section
variable {X:Cx} {tg iter elt:Expr} {ifs:List Expr} {sc:Scope} {pos:Pos} {xs:List Str} {wi:TI} {g:TG} {tc:TT} {te:TE}
theorem FpOk.turn {pins:List (Addr × Obj)} {σ:St} {H:Hp} {s:Shared} {C:Addr} {h':Heap} (f:FpOk X pins H C) (I:Inv X pins σ H s) (hs:Heap.SameBut C s.heap h'):Inv X pins σ H { s with heap:=h' }:=
 I.turned (t':=s.toks) (fun b o hb e=>hs.extBut b o hb e) f.1 f.2.1 f.2.2.2.1 f.2.2.2.2.1 f.2.2.2.2.2
theorem G9 (S:CScope X xs sc) (hc:X.calm=true) (hi:PI X tg iter wi) (hg:∀ex s3 H3,PG (cxC X xs sc ex s3 H3) tg g) (ht:∀ex s3 H3,PTs (cxC X xs sc ex s3 H3) ifs tc) (he:∀ex s3 H3,PE (cxC X xs sc ex s3 H3) elt te)
  (hs:∀x,foldedSetIterable iter X.env x=pure x:=by intro _; rfl):PE X (.ListComp elt [⟨tg,iter,ifs,0⟩] sc pos) (tLC xs.length wi g tc te):=by
 intro pins s σ H Q I h
 rw [eval_ListComp]
 refine wpAny_comprehension_free (use:=none) rfl hs (Z2 (S.cells I.ok)) S.kind S.names (thn (hi pins s σ H _ I h) fun v s1 h1=>thn h1 fun itv s2 h2=>?_)
 obtain ⟨it,fp,tn,J,H2,e,I2,T,st2,f2,W,w0,turn⟩:=h2
 subst e
 refine Gs (RR:=fun acc C=>compPost (model X.prog X.w) X.A X.xe none (EP X pins σ Q) acc C) S hc hg ht he I2 T st2 f2 W w0 _ turn fun D C s' acc H' hns fC hF hD IF=>?_
 obtain ⟨m,hm⟩:=hns
 exact ⟨m,hm,fun h' hs'=>⟨.ref D,_,fC.turn IF hs',rfl,hF D hD⟩⟩
theorem Jx {i:Nat} {y:Str} {pos' spos:Pos} (S:CScope X xs sc) (hc:X.calm=true) (hN:X.N.Nodup) (hy:X.N[i]? = some y) (hk:X.env.scope.names.lookup y=some .local)
  (hi:PI X tg iter wi) (hg:∀ex s3 H3,PG (cxC X xs sc ex s3 H3) tg g) (ht:∀ex s3 H3,PTs (cxC X xs sc ex s3 H3) ifs tc) (he:∀ex s3 H3,PE (cxC X xs sc ex s3 H3) elt te)
  (hsw:swapsWith (.ListComp elt [⟨tg,iter,ifs,0⟩] sc pos) (some (.Name y pos')) spos.line X.env=pure true:=by rfl)
  (hs:∀x,foldedSetIterable iter X.env x=pure x:=by intro _; rfl):PS X (.Assign [.Name y pos'] (.ListComp elt [⟨tg,iter,ifs,0⟩] sc pos) spos) (Abm (tLC xs.length wi g tc te) (Qi i)):=by
 intro pins s σ H D I h
 rw [exec_Assign_Name_used _ _ _ _ hsw]
 refine Za_ (wpAny_standAt (Za_ ?_))
 show wpAny _ X.A (do let _ <-comprehension (.ListComp elt [⟨tg,iter,ifs,0⟩] sc pos) sc X.env _ (newList []) false (eval iter X.env) (some (assign (.Name y pos') X.env))) _ _ s
 refine Za_ (wpAny_mono (wpAny_comprehension_free (use:=some (assign (.Name y pos') X.env)) (Q:=fun _ s'=>SP X pins D .next s') rfl hs (Z2 (S.cells I.ok)) S.kind S.names
  (thn (hi pins s σ H _ I h) fun v s1 h1=>thn h1 fun itv s2 h2=>?_)) (fun _ s' hq=>Zb_ (Zb_ hq)) fun _ _ e=>e)
 obtain ⟨it,fp,tn,J,H2,e,I2,T,st2,f2,W,w0,turn⟩:=h2
 subst e
 refine Gs (RR:=fun acc C=>compPost (model X.prog X.w) X.A X.xe (some (assign (.Name y pos') X.env)) (fun _ s'=>SP X pins D .next s') acc C) S hc hg ht he I2 T st2 f2 W w0 _ turn fun D' C s' acc H' hns fC hF hD IF=>?_
 obtain ⟨m,hm⟩:=hns
 refine wpAny_assign_Name (Cs (v:=.ref D') IF hN hy (.inl hk) rfl (fun s'' I'' hsb=>?_) (.inr hk))
 obtain ⟨a,hsb,ha⟩:=hsb
 have hne:C≠a:=by
  rcases ha with z | z
  ·rw [z]; exact fC.2.1
  ·exact fun q=>fC.2.2.2.2.1 y a z q.symm
 refine ⟨m,hm.sameBut hsb hne,fun h' hs'=>⟨_,_,fC.turn I'' hs',hF D' hD⟩⟩
end
theorem N3 {K:Θf} {a:Addr} {xs:List V} {n:Nat} {g:TG} {tc:TT} {te:TE} {σ:St} {H:Hp} {F:List V->Hp->Prop} (Pv:Nat->List V->Hp->Prop) (hn:xs.length<=1000000) (h0:Pv 0 [] H)
  (hl:∀i acc H,i<=xs.length->Pv i acc H->SqL K H a xs/\acc.length<=i)
  (hs:∀i x acc H,xs[i]? = some x->Pv i acc H->g x (List.replicate n none++σ) H fun σ2 H2=>σ2.drop n=σ/\tc σ2 H2 fun c H3=>if c=true then te σ2 H3 fun y H4=>Pv (i + 1) (acc++[y]) H4 else Pv (i + 1) acc H3)
  (hd:∀acc H,Pv xs.length acc H->F acc H):LCW n (Itl K a) g tc te σ H F:=by
 have sz:(1000000:Nat) < sizeLine:=by rw [sizeLine_eq]; decide
 refine ⟨fun i m acc H=>m=xs.length - i/\i<=xs.length/\Pv i acc H,⟨xs.length,by simp,Nat.zero_le _,h0⟩,?_⟩
 rintro i m acc H ⟨rfl,hi,p⟩
 have q:=hl i acc H hi p
 by_cases hlt:i < xs.length
 ·refine .inr ⟨⟨xs,xs[i],q.1,by simp [hlt]⟩,by omega,Pv (i + 1),fun acc' H' p'=>⟨xs.length - (i + 1),by omega,rfl,hlt,p'⟩,fun x H' y=>?_⟩
  obtain ⟨e,y⟩:=y
  subst e
  exact hs i x acc _ (y xs q.1) p
 ·have e:i=xs.length:=by omega
  subst e
  exact .inl ⟨⟨xs,q.1,Zd_ _⟩,by omega,hd acc H p⟩
theorem Lr {lo:Int} {k:Nat} {n:Nat} {g:TG} {tc:TT} {te:TE} {σ:St} {H:Hp} {F:List V->Hp->Prop} (Pv:Nat->List V->Hp->Prop) (hn:k<=1000000) (h0:Pv 0 [] H)
  (hl:∀i acc H,i<=k->Pv i acc H->acc.length<=i)
  (hs:∀i acc H,i < k->Pv i acc H->g (.int (lo + i)) (List.replicate n none++σ) H fun σ2 H2=>σ2.drop n=σ/\tc σ2 H2 fun c H3=>if c=true then te σ2 H3 fun y H4=>Pv (i + 1) (acc++[y]) H4 else Pv (i + 1) acc H3)
  (hd:∀acc H,Pv k acc H->F acc H):LCW n (Itr lo k) g tc te σ H F:=by
 have sz:(1000000:Nat) < sizeLine:=by rw [sizeLine_eq]; decide
 refine ⟨fun i m acc H=>m=k - i/\i<=k/\Pv i acc H,⟨k,by simp,Nat.zero_le _,h0⟩,?_⟩
 rintro i m acc H ⟨rfl,hi,p⟩
 have q:=hl i acc H hi p
 by_cases hlt:i < k
 ·refine .inr ⟨hlt,by omega,Pv (i + 1),fun acc' H' p'=>⟨k - (i + 1),by omega,rfl,hlt,p'⟩,fun x H' y=>?_⟩
  obtain ⟨e,y⟩:=y
  subst e y
  exact hs i acc _ hlt p
 ·have e:i=k:=by omega
  subst e
  exact .inl ⟨Zd_ _,by omega,hd acc H p⟩
section
variable {prog:Program} {w:World} {A:Around} {E:Value->Shared->Prop} {s:Shared}
end
section
variable {X:Cx} {pos:Pos}
theorem Ky:P1 X (.builtin "isinstance") (fun xs H Q=>∃x n t b,xs=[x,.ty n]/\TyOf X.K H x t/\PySem.W.kitOne X.K t (.type n)=some b/\Q (.bl b) H):=by
 intro pins s σ H xs us Q I r h
 obtain ⟨x,n,t,b,rfl,ty,e,q⟩:=h
 obtain ⟨u,v,rfl,rx,ry⟩:=Ru r
 obtain rfl:v=Value.type n:=ry
 exact Sr I rx ty e fun tk=>⟨.bl b,H,I.tok tk,rfl,q⟩
theorem Sv:MtR X "int.bit_length" (fun x xs H Q=>∃i,x = .int i/\xs=[]/\Q (.int ((Builtin.Int.intBits i:Nat):Int)) H):=by
 intro pins s σ H x xs v us Q I rx rs h
 obtain ⟨i,rfl,rfl,q⟩:=h
 obtain ⟨t,rfl⟩:=rx
 cases rs
 exact call_int_bit_length ⟨.int _,H,I.tok _,⟨_,rfl⟩,q⟩
noncomputable def Aex (K:Θf) (neg:Bool):R2:=fun x y H Q=>∃(a b:Addr) (ns ms:List Int),x = .ref a/\y = .ref b/\SqL K H a (ns.map V.int)/\SqL K H b (ms.map V.int)/\Q (.bl (if neg then !decide (ns=ms) else decide (ns=ms))) H
theorem Ac7 (hu:X.A.units + 64 < cLine):OpR X (compareOp .NotEq) (Aex X.K true):=by
 intro pins s σ H x y v u Q I rx ry h
 obtain ⟨a,b,ns,ms,rfl,rfl,h1,h2,q⟩:=h
 cases rx; cases ry
 obtain ⟨its,rv,pl,_⟩:=I.list h1
 obtain ⟨its',rv',pl',_⟩:=I.list h2
 exact PySem.W.ne_intsK pl.isList (Z4 rv) pl'.isList (Z4 rv') hu ⟨.bl _,H,I,rfl,q⟩
end
noncomputable def But (st:Addr) (H H':Hp):Prop:=∀b o,H b=some o->b≠st->H' b=some o
theorem But.refl (st:Addr) (H:Hp):But st H H:=fun _ _ h _=>h
theorem Same.new {H:Hp} {p:Addr} {o:HO} (h:H p=none):Same H (upd H p o):=fun b u e=>by rw [C8 (C4 e h)]; exact e
theorem Wm {x:Int} {n:Nat} (h0:0<=x) (h1:x < (n:Int)):∃r:Nat,x=(r:Int)/\r < n:=⟨x.toNat,by omega,by omega⟩
theorem Af1 (m:Nat):(1:Int) * 2 ^ (m:Int).toNat=((2 ^ m:Nat):Int):=by simp
theorem Aee {m:Nat} (h:m<=1000):Ad7 1 (m:Int):=⟨by omega,by omega,by decide⟩
theorem Z1 (a b:Nat):Builtin.bitAnd (a:Int) (b:Int)=((a&&&b:Nat):Int):=by
 simp [Builtin.bitAnd]
theorem Ei (x:Int):Builtin.bitNot (Builtin.bitNot x)=x:=by unfold Builtin.bitNot; omega
theorem Sd (a b:Nat):Builtin.bitOr (a:Int) (b:Int)=((a|||b:Nat):Int):=by
 have ha:¬0<=Builtin.bitNot (a:Int):=by unfold Builtin.bitNot; omega
 have hb:¬0<=Builtin.bitNot (b:Int):=by unfold Builtin.bitNot; omega
 unfold Builtin.bitOr
 simp only [Builtin.bitAnd,ha,hb,decide_false,Ei,Int.toNat_natCast]
theorem X6 (k:Nat):((2:Int) ^ k)=((2 ^ k:Nat):Int):=by simp
noncomputable def Aef (N xs:List Str) (osc sc:Scope):Bool:=
 decide (sc.kind = .function) && sc.names.all (fun y=>decide (y.2≠.cell)) && sc.names.all (fun y=>decide (y.2≠.local) || decide (sc.names.lookup y.1=some .local)) && xs.all (fun x=>decide (sc.names.lookup x=some .local)) &&
  N.all (fun y=>decide (sc.names.lookup y≠some .local)) && sc.names.all (fun y=>decide (y.2≠.free) || (decide (osc.names.lookup y.1=some .cell) || decide (osc.names.lookup y.1=some .free))) && decide ((xs++N).Nodup)
theorem cs {X:Cx} {xs:List Str} {sc:Scope} (N:List Str) (osc:Scope) (hN:X.N=N) (ho:X.env.scope=osc) (h:Aef N xs osc sc=true):CScope X xs sc:=by
 unfold Aef at h
 simp only [Bool.and_eq_true,List.all_eq_true,decide_eq_true_eq,Bool.or_eq_true] at h
 obtain ⟨⟨⟨⟨⟨⟨h1,h2⟩,h3⟩,h4⟩,h5⟩,h6⟩,h7⟩:=h
 refine ⟨h1,h2,fun y hy e=>?_,h4,by rw [hN]; exact h5,fun y hy e=>?_,by rw [hN]; exact h7⟩
 ·rcases h3 y hy with z | z
  ·exact absurd e z
  ·exact z
 ·rcases h6 y hy with z | z
  ·exact absurd e z
  ·show X.env.scope.names.lookup y.1=_\/X.env.scope.names.lookup y.1=_
   rw [ho]; exact z
theorem Wi (x:Int) {m:Int} (h:0 < m):0<=x % m:=Int.emod_nonneg _ (by omega)
theorem Wh (x:Int) {m:Int} (h:0 < m):x % m < m:=Int.emod_lt_of_pos _ h
noncomputable def vN (k:Nat):V:=V.int (k:Int)
noncomputable def Jg (a k:Nat):Bool:=decide (a / 2 ^ k % 2=1)
noncomputable def Ej (a:Nat):Nat:=Builtin.Int.intBits (a:Int)
noncomputable def E1 (a:Nat):List Nat:=(List.range (Ej a)).filter (Jg a)
theorem Jl (l:List Nat):(l.map fun (k:Nat)=>(k:Int)).map V.int=l.map vN:=by rw [List.map_map]; rfl
theorem Kx {a:Nat} (h:a < 2 ^ 20):Ej a<=20:=by
 unfold Ej Builtin.Int.intBits
 split
 ·omega
 ·rename_i z
  have h0:a≠0:=by intro e; subst e; exact z rfl
  have:a.log2 < 20:=(Nat.log2_lt h0).mpr h
  show (a:Int).natAbs.log2 + 1<=20
  rw [Int.natAbs_natCast]
  omega
theorem Jb (a b:Nat):decide (V.int (a:Int)=V.int (b:Int))=decide (a=b):=by
 rw [Du,Bool.eq_iff_iff,beq_iff_eq,decide_eq_true_iff]
 exact Int.ofNat_inj
noncomputable def Ab2:Sp:=fun vs H Q _=>∃a k:Nat,vs=[vN a,vN k]/\Q (.bl (Jg a k)) H
noncomputable def Fv:Sp:=fun vs H Q _=>∃a:Nat,vs=[vN a]/\a < 2 ^ 20/\∀p,H p=none->Q (.ref p) (upd H p (.lst ((E1 a).map vN)))
noncomputable def Ed:Sp:=fun vs H Q _=>∃m:Nat,vs=[vN m]/\m<=1000/\Q (vN (2 ^ m - 1)) H
theorem Aci (a k:Nat):decide (V.int (Builtin.bitAnd ((a:Int) / 2 ^ (k:Int).toNat) 1)=V.int 1)=Jg a k:=by
 have e:((a:Int) / 2 ^ (k:Int).toNat)=((a / 2 ^ k:Nat):Int):=by
  rw [Int.toNat_natCast,X6]; omega
 rw [e,show (1:Int)=((1:Nat):Int) from rfl,Z1,Jb,Nat.and_one_is_mod]
 rfl
theorem He (p:Nat->Bool) (i:Nat):(List.range (i + 1)).filter p=(List.range i).filter p++(if p i=true then [i] else []):=by
 rw [List.range_succ,List.filter_append]
 congr 1
 cases h:p i <;> simp [h]
section
variable {X:Cx} {K:Θf}
theorem C6 (h:X.K=K):IxR X (Aey K):=h ▸ Aac
theorem D5 (h:X.K=K):IxR X (Aez K):=h ▸ Ack
theorem E4 (h:X.K=K):P1 X (.builtin "len") (fun xs H Q=>∃p ys,xs=[.ref p]/\(SqL K H p ys\/SqT K H p ys)/\Q (.int ys.length) H):=h ▸ Ix
theorem Ek (h:X.K=K):P1 X (.builtin "isinstance") (fun xs H Q=>∃x n t b,xs=[x,.ty n]/\TyOf K H x t/\PySem.W.kitOne K t (.type n)=some b/\Q (.bl b) H):=h ▸ Ky
theorem El (h:X.K=K):P1 X (.type "list") (fun xs H Q=>∃p ys,xs=[.ref p]/\(SqL K H p ys\/SqT K H p ys)/\∀l,H l=none->Q (.ref l) (upd H l (.lst ys))):=h ▸ Iy
theorem Aaz (h:X.K=K) (hu:X.A.units + 64 < cLine):OpR X (compareOp .NotEq) (Aex K true):=h ▸ Ac7 hu
theorem F1 {tg l:Expr} {tl:TE} (h:X.K=K) (hl:PE X l tl):PI X tg l (Abv K tl):=h ▸ Aa4 hl
theorem Aa5 {tg l:Expr} {tl:TE} (h:X.K=K) (hl:PE X l tl):PI X tg l (Aep K tl):=h ▸ Adj hl
end
noncomputable def rN (C:Nat->Nat->Prop) (g:Nat->Nat->V):R2:=fun x y H Q=>∃i j:Nat,x=vN i/\y=vN j/\C i j/\Q (g i j) H
noncomputable def rN0 (g:Nat->Nat->V):R2:=fun x y H Q=>∃i j:Nat,x=vN i/\y=vN j/\Q (g i j) H
section
variable {X:Cx}
theorem OpR.mono {f:Value->Value->Sem Value} {r r':R2} (h:OpR X f r) (k:∀x y H Q,r' x y H Q->r x y H Q):OpR X f r':=fun pins s σ H x y v u Q I rx ry q=>h pins s σ H x y v u Q I rx ry (k x y H Q q)
theorem G8:OpR X (binaryOp .Add) (rN0 fun i j=>vN (i + j)):=op_add.mono fun x y H Q ⟨i,j,h1,h2,q⟩=>⟨i,j,h1,h2,by show Q (V.int ((i:Int) + j)) H; rw [<-Int.natCast_add]; exact q⟩
theorem Jv:OpR X (binaryOp .Sub) (rN (fun i j=>j<=i) fun i j=>vN (i - j)):=op_sub.mono fun x y H Q ⟨i,j,h1,h2,h,q⟩=>⟨i,j,h1,h2,by show Q (V.int ((i:Int) - j)) H; rw [<-Int.ofNat_sub h]; exact q⟩
theorem U9:OpR X (binaryOp .Mult) (rN (fun i _=>i < 2 ^ 64) fun i j=>vN (i * j)):=op_mul.mono fun x y H Q ⟨i,j,h1,h2,h,q⟩=>⟨i,j,h1,h2,.inl ⟨by omega,by omega⟩,by show Q (V.int ((i:Int) * j)) H; rw [<-Int.natCast_mul]; exact q⟩
theorem D9:OpR X (binaryOp .Mod) (rN (fun _ j=>0 < j) fun i j=>vN (i % j)):=op_mod.mono fun x y H Q ⟨i,j,h1,h2,h,q⟩=>⟨i,j,h1,h2,by omega,by show Q (V.int ((i:Int) % j)) H; rw [<-Int.natCast_emod]; exact q⟩
theorem E5:OpR X (binaryOp .FloorDiv) (rN (fun _ j=>0 < j/\j < 1073741824) fun i j=>vN (i / j)):=op_fdiv.mono fun x y H Q ⟨i,j,h1,h2,h,q⟩=>⟨i,j,h1,h2,⟨by omega,by omega⟩,by show Q (V.int ((i:Int) / j)) H; rw [<-Int.natCast_ediv]; exact q⟩
theorem op_shlN:OpR X (binaryOp .LShift) (rN (fun i j=>j<=1000/\i < 2 ^ 64) fun i j=>vN (i * 2 ^ j)):=op_shl.mono fun x y H Q ⟨i,j,h1,h2,h,q⟩=>⟨i,j,h1,h2,⟨by omega,by omega,by rw [Int.natAbs_natCast]; exact h.2⟩,by
 show Q (V.int ((i:Int) * 2 ^ (j:Int).toNat)) H
 rw [Int.toNat_natCast,X6,<-Int.natCast_mul]; exact q⟩
theorem O9:OpR X (binaryOp .LShift) (fun x y H Q=>∃j:Nat,x = .int 1/\y=vN j/\j<=1000/\Q (vN (2 ^ j)) H):=op_shlN.mono fun x y H Q ⟨j,h1,h2,h,q⟩=>⟨1,j,h1,h2,⟨h,by decide⟩,by show Q (vN (1 * 2 ^ j)) H; rw [Nat.one_mul]; exact q⟩
theorem Aa1:OpR X (binaryOp .RShift) (rN0 fun i j=>vN (i / 2 ^ j)):=op_shr.mono fun x y H Q ⟨i,j,h1,h2,q⟩=>⟨i,j,h1,h2,by omega,by
 show Q (V.int ((i:Int) / 2 ^ (j:Int).toNat)) H
 rw [Int.toNat_natCast,X6,<-Int.natCast_ediv]; exact q⟩
theorem S3:OpR X (binaryOp .BitAnd) (rN0 fun i j=>vN (i&&&j)):=op_and.mono fun x y H Q ⟨i,j,h1,h2,q⟩=>⟨i,j,h1,h2,by show Q (V.int (Builtin.bitAnd (i:Int) j)) H; rw [Z1]; exact q⟩
theorem Ju:OpR X (binaryOp .BitOr) (rN0 fun i j=>vN (i|||j)):=op_or.mono fun x y H Q ⟨i,j,h1,h2,q⟩=>⟨i,j,h1,h2,by show Q (V.int (Builtin.bitOr (i:Int) j)) H; rw [Sd]; exact q⟩
theorem N6:OpR X (compareOp .Eq) (rN0 fun i j=>.bl (decide (i=j))):=op_eq.mono fun x y H Q ⟨i,j,h1,h2,q⟩=>by
 subst h1 h2
 refine ⟨rfl,?_⟩
 show Q (V.bl (decide (V.int (i:Int)=V.int (j:Int)))) H
 rw [Jb]; exact q
theorem Fd:OpR X (compareOp .NotEq) (rN0 fun i j=>.bl (!decide (i=j))):=op_ne.mono fun x y H Q ⟨i,j,h1,h2,q⟩=>by
 subst h1 h2
 refine ⟨rfl,?_⟩
 show Q (V.bl (!decide (V.int (i:Int)=V.int (j:Int)))) H
 rw [Jb]; exact q
theorem dlt (i j:Nat):decide ((i:Int) < (j:Int))=decide (i < j):=by rw [decide_eq_decide]; omega
theorem dle (i j:Nat):decide ((i:Int)<=(j:Int))=decide (i<=j):=by rw [decide_eq_decide]; omega
theorem Jt:OpR X (compareOp .Lt) (rN0 fun i j=>.bl (decide (i < j))):=op_lt.mono fun x y H Q ⟨i,j,h1,h2,q⟩=>⟨i,j,h1,h2,by show Q (V.bl (decide ((i:Int) < j))) H; rw [dlt]; exact q⟩
theorem Ac6:OpR X (compareOp .LtE) (rN0 fun i j=>.bl (decide (i<=j))):=op_le.mono fun x y H Q ⟨i,j,h1,h2,q⟩=>⟨i,j,h1,h2,by show Q (V.bl (decide ((i:Int)<=j))) H; rw [dle]; exact q⟩
theorem Ci:OpR X (compareOp .Gt) (rN0 fun i j=>.bl (decide (j < i))):=op_gt.mono fun x y H Q ⟨i,j,h1,h2,q⟩=>⟨i,j,h1,h2,by show Q (V.bl (decide ((j:Int) < i))) H; rw [dlt]; exact q⟩
theorem Ac5:OpR X (compareOp .GtE) (rN0 fun i j=>.bl (decide (j<=i))):=op_ge.mono fun x y H Q ⟨i,j,h1,h2,q⟩=>⟨i,j,h1,h2,by show Q (V.bl (decide ((j:Int)<=i))) H; rw [dle]; exact q⟩
end
theorem T6 {k:Nat} {n:Nat} {g:TG} {tc:TT} {te:TE} {σ:St} {H:Hp} {F:List V->Hp->Prop} (Pv:Nat->List V->Hp->Prop) (hn:k<=1000000) (h0:Pv 0 [] H)
  (hl:∀i acc H,i<=k->Pv i acc H->acc.length<=i)
  (hs:∀i acc H,i < k->Pv i acc H->g (vN i) (List.replicate n none++σ) H fun σ2 H2=>σ2.drop n=σ/\tc σ2 H2 fun c H3=>if c=true then te σ2 H3 fun y H4=>Pv (i + 1) (acc++[y]) H4 else Pv (i + 1) acc H3)
  (hd:∀acc H,Pv k acc H->F acc H):LCW n (Itr 0 k) g tc te σ H F:=
 Lr Pv hn h0 hl (fun i acc H hi p=>by rw [Int.zero_add]; exact hs i acc H hi p) hd
theorem Z3 {n:Nat} {g:TG} {tb:TS} {D:Ends} {σ:St} {H:Hp} (Pv:Nat->St->Hp->Prop) (h0:Pv 0 σ H)
  (hs:∀i σ H,i < n->Pv i σ H->g (vN i) σ H fun σ2 H2=>tb { D with nx:=Pv (i + 1),ct:=Pv (i + 1),bk:=D.nx } σ2 H2) (hd:∀σ H,Pv n σ H->D.nx σ H) :
  ∃W:Nat->Nat->St->Hp->Prop,(∃m,W 0 m σ H)/\∀i m σ H,W i m σ H->
   ((Itr 0 n).stop i H/\D.nx σ H)\/((Itr 0 n).go i H/\∃N:St->Hp->Prop,(∀σ' H',N σ' H'->∃m',m' < m/\W (i + 1) m' σ' H')/\∀x H',(Itr 0 n).yld i H x H'->g x σ H' fun σ2 H2=>tb { D with nx:=N,ct:=N,bk:=D.nx } σ2 H2):=
 Hg (lo:=0) Pv h0 (fun i σ H hi p=>by rw [Int.zero_add]; exact hs i σ H hi p) hd
section
variable {X:Cx} {K:Θf}
theorem Iz (h:X.K=K):P1 X (.builtin "sorted") (fun xs H Q=>∃(p:Addr) (ns:List Int),xs=[.ref p]/\SqL K H p (ns.map V.int)/\ns.length < 64/\∀(l:Addr) (ns':List Int),H l=none->ns'.Perm ns->ns'.Pairwise (·<=·)->Q (.ref l) (upd H l (.lst (ns'.map V.int)))):=by
 subst h
 intro pins s σ H xs us Q I r h
 obtain ⟨p,ns,rfl,hq,h64,q⟩:=h
 obtain ⟨u,rfl,rx⟩:=V6 r
 cases rx
 obtain ⟨its,rv,pl,hz⟩:=I.list hq
 refine sorted_ints pl.isList (Z4 rv) (by rw [<-rv.length,Θl]; exact h64) fun out ns' a1 a2 a3=>?_
 obtain ⟨e,he⟩:=sortedAll_at s.heap its out
 refine ⟨.ref (s.heap.objs.size + 1),_,I.laid (t':=s.toks) (fun b o=>sortedAll_old) (Nat.le_succ _) (show ObjOk X.prog X.w _ _ _ (.lst (ns'.map V.int)) from ⟨?_,out.toList,e,Cu a1,by simpa using he⟩),rfl,q _ ns' (I.hok.fresh (Nat.le_succ _)) a2 a3⟩
 rw [Θl,a2.length_eq]
 exact Nat.le_of_lt (D4 (by omega))
theorem Ade {o e:Expr} {es:List Expr} {to:TE} {t:TA} {name:Str} {apos cpos:Pos} {T id:String} {r:V->List V->Hp->VK->Prop} (hK:X.K=K) (pa:PlainAttrs T) (slot:Slot T name id) (hty:typeOf (.builtin id)=pure (.type "method_descriptor")) (hm:MtR X id r) (ho:PE X o to) (ha:PA X (e :: es) t)
  (hbase:attributeBase o name X.env (eval o X.env)=eval o X.env:=by rfl)
  (hfew:((backTo cpos (starEach (e :: es) X.env)).all (fun x=>!x.1) && (backToKw cpos (keywordEach [] X.env)).all (fun x=>x.1.isSome)
   && decide ((e :: es).length + ([]:List Keyword).length + (if ([]:List Keyword).isEmpty then 0 else 1) < 30))=true:=by rfl)
  (hline:(apos.endLine == cpos.line)=true:=by rfl) (hs:starEach (e :: es) X.env=(false,eval e X.env) :: starEach es X.env:=by rfl) (hplain:(backTo cpos (starEach es X.env)).any (·.1)=false:=by rfl) :
  PE X (.Call (.Attribute o name apos) (e :: es) [] cpos) (tBM K T r to t):=hK ▸ G5 pa slot hty hm ho ha hbase hfew hline hs hplain
theorem Oq {st:List Stmt} {t:TS} (i:Nat) (h:PSs X st t):PSs X st (fun D σ H=>t D (σ.set i none) H):=fun pins s σ H D I hw=>
 h pins s (σ.set i none) H D (I.weak (by simp) fun j v e=>by
  by_cases hj:i=j
  ·subst hj
   rw [List.getElem?_set] at e
   simp only [if_true] at e
   split at e <;> cases e
  ·rwa [List.getElem?_set_ne hj] at e) hw
noncomputable abbrev Cx.withN (X:Cx) (N':List Str):Cx:={ X with N:=N' }
theorem Cx.Ok.withN {X:Cx} (ok:X.Ok) (N':List Str):(X.withN N').Ok:=
 ⟨ok.mod,ok.kind,ok.glob,ok.blt,ok.above,ok.inj,ok.has,ok.cab,ok.hd,ok.frames,ok.stk,ok.exf,ok.bs,ok.bsz,ok.noex,ok.exfs,ok.funs,ok.frf⟩
theorem Cx.Ok.ofN {X:Cx} {N':List Str} (ok:(X.withN N').Ok):X.Ok:=
 ⟨ok.mod,ok.kind,ok.glob,ok.blt,ok.above,ok.inj,ok.has,ok.cab,ok.hd,ok.frames,ok.stk,ok.exf,ok.bs,ok.bsz,ok.noex,ok.exfs,ok.funs,ok.frf⟩
theorem Aa2 {e:Expr} {t:TE} (j:Nat) (hv:¬Vis X.env.scope "") (h:PE (X.withN (X.N.set j "")) e t):PE X e (fun σ H Q=>(∀v,σ[j]?≠some (some v))/\t σ H Q):=by
 intro pins s σ H Q I ⟨hd,hw⟩
 have I':Inv (X.withN (X.N.set j "")) pins σ H s:=by
  refine ⟨I.ok.withN _,I.os,I.bare,I.base,?_,I.cell,I.free,I.freeC,I.pin,I.hok,by rw [I.len]; simp⟩
  obtain ⟨m,h1,h2⟩:=I.loc
  refine ⟨m,h1,fun i x v e1 e2 e3=>?_⟩
  by_cases hj:j=i
  ·subst hj; exact absurd e2 (hd v)
  ·exact h2 i x v (by rwa [show (X.withN (X.N.set j "")).N=X.N.set j "" from rfl,List.getElem?_set_ne hj] at e1) e2 e3
 refine thn (h pins s σ H Q I' hw) fun u s' ⟨v,H',J,r,q⟩=>⟨v,H',?_,r,q⟩
 refine ⟨J.ok.ofN,J.os,J.bare,J.base,?_,J.cell,J.free,J.freeC,J.pin,J.hok,I.len⟩
 obtain ⟨m,h1,h2⟩:=J.loc
 refine ⟨m,h1,fun i x v e1 e2 e3=>?_⟩
 by_cases hj:j=i
 ·subst hj; exact absurd e2 (hd v)
 ·exact h2 i x v (by rwa [show (X.withN (X.N.set j "")).N=X.N.set j "" from rfl,List.getElem?_set_ne hj]) e2 e3
end
noncomputable def SqF (K:Θf) (H:Hp) (a:Addr) (ns:List Int):Prop:=(∃o,H a=some (.frz o (.lst (ns.map V.int))))\/
 ∃(o:Obj) (its:Array Value) (n:Nat),K.lookup a=some o/\o.cls = .type "list"/\o.dict=none/\o.data = .seq its n/\its.size<=sizeLine/\Vals (ns.map V.int) its.toList
theorem SqF.sq {K:Θf} {H:Hp} {a:Addr} {ns:List Int} (h:SqF K H a ns):SqL K H a (ns.map V.int):=by
 rcases h with ⟨o,h⟩ | h
 ·exact .inl (.inr ⟨o,h⟩)
 ·exact .inr h
theorem SqF.of {K:Θf} {H:Hp} {a:Addr} {ns:List Int} (hO:Zl H) (h:SqL K H a (ns.map V.int)):SqF K H a ns:=by
 rcases h with (h | ⟨o,h⟩) | h
 ·rcases hO a with z | ⟨o,xs,z⟩
  ·rw [h] at z; cases z
  ·rw [h] at z; cases z
 ·exact .inl ⟨o,h⟩
 ·exact .inr h
section
variable {X:Cx} {K:Θf}
theorem Rw (bs:List Bool):((List.range bs.length).all fun i=>bs.getD i true)=bs.all id:=by
 rw [Bool.eq_iff_iff,List.all_eq_true,List.all_eq_true]
 constructor
 ·intro h b hb
  obtain ⟨i,hi,rfl⟩:=List.getElem_of_mem hb
  have:=h i (List.mem_range.mpr hi)
  rwa [Zu_,Θh hi] at this
 ·intro h i hi
  have hi':=List.mem_range.mp hi
  rw [Zu_,Θh hi']
  exact h _ (List.getElem_mem hi')
theorem Bx (h:X.K=K) (hc:X.calm=true):P1 X (.builtin "all") (fun xs H Q=>∃(p:Addr) (bs:List Bool),xs=[.ref p]/\SqL K H p (bs.map V.bl)/\Q (.bl (bs.all id)) H):=by
 subst h
 intro pins s σ H xs us Q I r h
 obtain ⟨p,bs,rfl,hq,q⟩:=h
 obtain ⟨u,rfl,rx⟩:=V6 r
 cases rx
 obtain ⟨its,rv,pl,hz⟩:=I.list hq
 have len:its.length=bs.length:=by rw [<-rv.length,Θl]
 refine call_all_walk (wpAny_pyIter_list pl.isList ⟨s.heap.objs.size,[s.heap.objs.size,p],[s.heap.objs.size],its.toArray.size,_,_,fun i=>bs.getD i true,rfl,Walks.list (A:=X.A.in1) (I.ok.hd hc) _ p (Zs_ pl.lt) its.toArray,⟨⟨_,Zm_ _ rfl,rfl,rfl⟩,pl.isList.push _⟩,fun i v s' Q' E' hP hQ=>?_,fun h' tk hk=>?_⟩)
 ·have hP':its[i]? = some v:=by simpa using hP
  have hi:i < bs.length:=by rw [<-len]; exact (Ze_.mp hP').1
  obtain ⟨c,e1,r1⟩:=rv.get (i:=i) (x:=V.bl bs[i]) (by rw [Θg,Θh hi]; rfl)
  rw [hP'] at e1
  obtain rfl:=Θo e1
  obtain rfl:v=Value.bool bs[i]:=r1
  refine wpAny_truthy_bool ?_
  have hQ':Q' (bs.getD i true) s':=hQ
  rwa [Zu_,Θh hi] at hQ'
 ·refine ⟨.bl (bs.all id),H,I.kept fun b o e=>hk b o (fun hm=>?_) (Zc_ _ e),?_,q⟩
  ·rw [Θs hm] at e
   exact Nat.lt_irrefl _ (Zn_ e)
  ·show _=Value.bool _
   rw [Zx_,len,Rw]
end
section
variable {prog:Program} {w:World} {A:Around} {E:Value->Shared->Prop} {s:Shared}
theorem Aeh {it t:Addr} {i:Nat} {its:Array Value} {x:Value} {Q:Value->Shared->Prop} (hI:s.heap.IsTupleIter it t i) (hT:s.heap.IsTuple t its) (hX:its[i]? = some x)
  (k:∀g,g.IsTupleIter it t (i + 1)->Heap.SameBut it s.heap g->Q x { s with heap:=g }):wpAny (model prog w) A (Builtin.SmallTypes.nextOf (.ref it)) Q E s:=by
 obtain ⟨oi,ei,ci,di⟩:=id hI
 obtain ⟨ot,et,_,nt,dt⟩:=hT
 have fits:(2:Nat)<=sizeLine:=by decide
 unfold Builtin.SmallTypes.nextOf
 refine Za_ (wpAny_callSpecial?_slot (name:=Str.ofString "__next__") hI.typeIs F.slot_tuple_iterator_next (wpAny_call_entry F.slot_tuple_iterator_next hI.typeIs F.entry_tuple_iterator_next ?_ (F.args_tuple_iterator_next_1 _)))
 refine Za_ (m:=field (.ref it) 0) (wpAny_field ei di (x:=.ref t) rfl ?_)
 rw [show (Value.ref t == Value.none)=false from rfl]
 refine Za_ (m:=field (.ref it) 1) (wpAny_field ei di (x:=.int i 0) rfl (Za_ (m:=seqItems? (.ref t)) (wpAny_seqItems et dt ?_)))
 simp only [Int.toNat_natCast,hX]
 refine wpAny_bind (wpAny_setField ei di (by simp) (wpAny_pure ⟨x,rfl,wpAny_pure (k _ ⟨_,Heap.get?_update_self _ ei (Obj.isFreed_of_fields (Obj.data_mapFields di _)),(Obj.cls_mapFields ..).trans ci,?_⟩ (Heap.SameBut.update ..))⟩))
 rw [Obj.data_mapFields di]
 simp [rawInt]
theorem Afp {it t:Addr} {i:Nat} {its:Array Value} {Q:Value->Shared->Prop} (hh:A.handled=none) (hI:s.heap.IsTupleIter it t i) (hT:s.heap.IsTuple t its) (hX:its[i]? = none)
  (k:∀g e,Heap.ExtBut it s.heap g->(∃o,g.get? e=some o/\o.cls = .type "StopIteration")->E (.ref e) { s with heap:=g }):wpAny (model prog w) A (Builtin.SmallTypes.nextOf (.ref it)) Q E s:=by
 obtain ⟨oi,ei,ci,di⟩:=id hI
 obtain ⟨ot,et,_,nt,dt⟩:=hT
 unfold Builtin.SmallTypes.nextOf
 refine Za_ (wpAny_callSpecial?_slot (name:=Str.ofString "__next__") hI.typeIs F.slot_tuple_iterator_next (wpAny_call_entry F.slot_tuple_iterator_next hI.typeIs F.entry_tuple_iterator_next ?_ (F.args_tuple_iterator_next_1 _)))
 refine Za_ (m:=field (.ref it) 0) (wpAny_field ei di (x:=.ref t) rfl ?_)
 rw [show (Value.ref t == Value.none)=false from rfl]
 refine Za_ (m:=field (.ref it) 1) (wpAny_field ei di (x:=.int i 0) rfl (Za_ (m:=seqItems? (.ref t)) (wpAny_seqItems et dt ?_)))
 simp only [Int.toNat_natCast,hX]
 refine wpAny_bind (wpAny_rule (wpAny_bind (wpAny_setField ei di (by simp) (wpAny_bind (m:=newExc (.type "StopIteration") []) ?_))))
 simp only [newExc,newTuple]
 refine wpAny_bind (wpAny_newObj_type (wpAny_bind (m:=firstArgMember _ _) (wpAny_of_eq (a:=Value.none) (by first | rfl | (simp only [firstArgMember]; rfl)) (wpAny_newObj_type ?_ (by size_fits)))) (by size_fits))
 simp only [raiseNew]
 refine Za_ (wpAny_handled ?_)
 first | rw [show A.in1.handled=none from hh] | rw [hh]
 exact Za_ (Zb_ (wpAny_throw (k _ _ (((Heap.SameBut.update ..).extBut.push _).push _) ⟨_,Zm_ _ rfl,rfl⟩)))
theorem Zj {z TI TO a b p q:Addr} {i:Nat} {xs:Array Value} {u v:Value} {Q:Fin->Shared->Prop} (hh:A.handled=none) (D:ZipApart z TI TO a b p q)
  (hZ:IsZip s.heap z TI TO .none) (hI:IsPair s.heap TI (.ref a) (.ref b)) (ha:s.heap.IsTupleIter a p i) (hp:s.heap.IsTuple p xs) (ex:xs[i]? = none)
  (k:∀g e,(∀c o,c≠z->c≠a->s.heap.get? c=some o->g.get? c=some o)->(∃o,g.get? e=some o/\o.cls = .type "StopIteration")->E (.ref e) { s with heap:=g }) :
  wpAny (model prog w) A (Builtin.«zip.__next__» ⟨[.ref z],[]⟩) Q E s:=by
 refine Za_ (m:=field (.ref z) 2) (wpAny_field hZ rfl (x:=.bool false) rfl ?_)
 refine Za_ (m:=field (.ref z) 3) (wpAny_field hZ rfl (x:=.ref TI) rfl (Za_ (wpAny_seqItems hI rfl ?_)))
 refine Za_ (m:=Builtin.SmallTypes.ownedTupleIsFree (.ref z)) ?_
 unfold Builtin.SmallTypes.ownedTupleIsFree
 refine Za_ (wpAny_field hZ rfl (x:=.none) rfl (Zb_ ?_))
 simp only [if_true]
 refine wpAny_bind (wpAny_rule (wpAny_bind (wpAny_field hZ rfl (x:=.ref TO) rfl (wpAny_bind (wpAny_setField_rec hZ (by simp) fun g1 z1 k1=>?_)))))
 replace z1:IsZip g1 z TI TO .ellipsis:=z1
 refine Za_ ?_
 simp only [List.zipIdx_cons,List.zipIdx_nil,List.forIn_cons,List.forIn_nil]
 refine Za_ (Za_ (wpAny_onRaise (Za_ (m:=Builtin.SmallTypes.nextOf (.ref a)) (Afp hh (ha.extBut k1.extBut D.i1z) (hp.extBut k1.extBut D.l1z) ex fun g2 e k2 he=>?_))))
 obtain ⟨oe,ee,ce⟩:=he
 have z2:IsZip g2 z TI TO .ellipsis:=k2 _ _ D.i1z.symm z1
 have ne:e≠z:=fun r=>by subst r; rw [z2] at ee; cases ee; simp at ce
 exact wpAny_setField_rec z2 (by simp) fun g3 _ k3=>k g3 e (fun c o n1 n2 x=>k3.extBut _ _ n1 (k2 _ _ n2 (k1.extBut _ _ n1 x))) ⟨oe,k3.extBut _ _ ne ee,ce⟩
theorem Sy {z TI TO a b p q:Addr} {i:Nat} {xs:Array Value} {Q:Option Value->Shared->Prop} (hh:A.handled=none) (D:ZipApart z TI TO a b p q)
  (hZ:IsZip s.heap z TI TO .none) (hI:IsPair s.heap TI (.ref a) (.ref b)) (ha:s.heap.IsTupleIter a p i) (hp:s.heap.IsTuple p xs) (ex:xs[i]? = none)
  (k:∀g,(∀c o,c≠z->c≠a->s.heap.get? c=some o->g.get? c=some o)->Q none { s with heap:=g }):wpAny (model prog w) A (pyNext (.ref z)) Q E s:=by
 have ty:s.TypeIs (.ref z) "zip":=⟨_,hZ,rfl⟩
 unfold pyNext
 refine Za_ (wpAny_attempt (wpAny_callSpecial?_slot (name:=Str.ofString "__next__") ty F.slot_zip_next (wpAny_call_entry F.slot_zip_next ty F.entry_zip_next ?_ (F.args_zip_next_1 _))))
 refine Zj (u:=.none) (v:=.none) hh D hZ hI ha hp ex fun g e hk he=>?_
 obtain ⟨o,eo,co⟩:=he
 exact Za_ (wpAny_isInstance (T:="StopIteration") (b:=true) ⟨o,eo,co⟩ isSubtype_stop (Zb_ (k g hk)))
end
section
variable {X:Cx} {pins:List (Addr × Obj)} {σ:St} {H:Hp} {s:Shared}
theorem Inv.turnedL {t':Nat} {h':Heap} {ch:List Addr} (I:Inv X pins σ H s) (k:∀b o,b∉ch->s.heap.get? b=some o->h'.get? b=some o) (hf:∀b∈ch,FpOk X pins H b):Inv X pins σ H { s with heap:=h',toks:=t' }:=by
 have nit:∀b u,H b=some u->b∉ch:=fun b u e z=>by rw [(hf b z).1] at e; cases e
 refine I.step (g':=s.gens) (d':=s.drawn) (ch:=ch) (fun b hb=>?_) (fun b o _ _ hc e _=>k b o hc e) (fun b o _ _ hc e _=>⟨o.slots,k b o hc e⟩) (fun _ _ _ _ n=>n) (fun b o hc e=>⟨o,k b o hc e⟩) (fun _ _ e=>e) (fun _ _ _ e=>e) (fun b ps e=>⟨#[],by rw [e]; simp⟩) (fun m hm=>?_) (fun b u e=>?_) I.bare
 ·obtain ⟨f0,f1,f2,f3,f4,f5⟩:=hf b hb
  exact ⟨f3,f1,f4,f5⟩
 ·obtain ⟨o,es,ep,ho,r⟩:=hm
  exact ⟨o,es,ep,k _ o (fun z=>(hf _ z).2.1 rfl) ho,r⟩
 ·refine (I.hok b u e).stay (fun c v hc q=>k c v ?_ q) (fun _ q=>q) fun _ _ q=>q
  rcases hc with z | z
  ·rw [z]; exact nit b u e
  ·exact nit c _ z
end
theorem Same.tupS {K:Θf} {H H':Hp} {a:Addr} {xs:List V} (e:Same H H') (h:SqT K H a xs):SqT K H' a xs:=by
 rcases h with (h | ⟨o,h⟩) | h
 ·exact .inl (.inl (e _ _ h))
 ·exact .inl (.inr ⟨o,e _ _ h⟩)
 ·exact .inr h
section
variable {κ:Type} [DecidableEq κ]
end
section
variable {P:Program} {w:World} {H:Hp} {h:Heap} {a:Addr}
end
section
variable {X:Cx} {pins:List (Addr × Obj)} {σ:St} {H:Hp} {s:Shared} {a:Addr} {y v:V} {u r:Value} {o:Option V} {A:Around} {E:Value->Shared->Prop}
end
section
variable {X:Cx} {pins:List (Addr × Obj)} {σ:St} {H:Hp} {s:Shared} {a:Addr} {kvs:List (Key × V)} {k:Key} {u:Value} {A:Around} {E:Value->Shared->Prop}
end
section
variable {X:Cx} {o i e value:Expr} {pos pos' tpos:Pos} {td ty tv:TE}
end
section
variable {X:Cx} {pos:Pos}
end
section
variable {X:Cx} {pins:List (Addr × Obj)} {σ:St} {H:Hp} {s:Shared} {a:Addr} {y d:V} {u r:Value} {o:Option V} {A:Around} {E:Value->Shared->Prop}
end
section
variable {X:Cx} {o e f:Expr} {apos cpos:Pos} {td ty tx:TE}
end
section
variable {X:Cx} {pins:List (Addr × Obj)} {σ:St} {H:Hp} {s:Shared} {a:Addr} {kvs:List (Key × V)} {A:Around} {E:Value->Shared->Prop}
end
section
variable {X:Cx} {pins:List (Addr × Obj)} {σ:St} {H:Hp} {s:Shared} {a:Addr} {y:V} {u:Value} {A:Around} {E:Value->Shared->Prop}
end
section
variable {prog:Program} {w:World} {A:Around} {E:Value->Shared->Prop} {s:Shared} {κ:Type} [DecidableEq κ] {kd:HeapKind prog w κ}
end
section
variable {X:Cx} {o e f:Expr} {apos cpos:Pos} {td ty tx:TE}
end
section
variable {prog:Program} {w:World} {A:Around} {E:Value->Shared->Prop} {s:Shared}
end
section
variable {X:Cx} {pins:List (Addr × Obj)} {σ:St} {H:Hp} {s:Shared}
end
section
variable {prog:Program} {w:World} {A:Around} {E:Value->Shared->Prop} {s:Shared}
end
section
variable {X:Cx} {pins:List (Addr × Obj)} {σ:St} {H:Hp}
end
noncomputable def D6 (st:Bool):Str:=if st=true then "settle" else "deal"
noncomputable def K8 (H:Hp) (r:Addr) (st:Bool) (x y:Nat):Prop:=H r=some (.tup [.str (D6 st),vN x,vN y])
structure Rl where
 r:Addr
 st:Bool
 x:Nat
 y:Nat
section
variable {X:Cx} {K:Θf} {pins:List (Addr × Obj)} {σ:St} {H:Hp} {s:Shared}
end
section
variable {X:Cx} {st:Stmt} {rest:List Stmt} {t u:TS}
theorem Jy (P:St->Hp->Prop) (h1:PS X st t) (h2:PSs X rest u):PSs X (st :: rest) (fun D σ H=>t { D with nx:=P } σ H/\∀σ' H',P σ' H'->u D σ' H'):=by
 intro pins s σ H D I h
 refine wpAny_execs_cons (thn (h1 pins s σ H { D with nx:=P } I h.1) fun f s1 q=>?_)
 cases f with
 | next=>
  obtain ⟨σ',H',I',q⟩:=q
  exact h2 pins s1 σ' H' D I' (h.2 σ' H' q)
 | ret v=>exact q
 | brk=>exact q
 | cont=>exact q
end
section
variable {X:Cx} {pins:List (Addr × Obj)} {σ:St} {H:Hp} {s:Shared}
noncomputable def Itn (K:Θf) (l:Addr):It:=
 ⟨fun i H=>∃xs x,SqL K H l xs/\xs[i]? = some x,
  fun i H v H'=>∃t x,v = .ref t/\H t=none/\(∀xs,SqL K H l xs->xs[i]? = some x)/\H' = upd H t (.tup [.int (i:Int),x]),
  fun i H=>∃xs,SqL K H l xs/\xs.length<=i⟩
noncomputable def tnN (e it l:Addr) (i:Nat) (h:Heap):Prop:=(∃old,IsEnum h e it (i:Int) old)/\h.IsListIter it l i
theorem Ul {P:Program} {w:World} {K:Θf} {es:List Expr} {n:Nat} {tp:Pos} {e it l:Addr} (hne:e≠it):Turn P w K (.Tuple es n tp) (Itn K l) [e,it] e (tnN e it l) where
 mem:=by simp
 obj:=fun i h st c hc=>by
  obtain ⟨⟨old,hE⟩,⟨oa,ea,_,da⟩⟩:=st
  simp only [List.mem_cons,List.not_mem_nil,or_false] at hc
  rcases hc with rfl | rfl
  ·exact ⟨_,hE,fun v r=>by cases r⟩
  ·exact ⟨_,ea,fun v r=>by rw [da] at r; cases r⟩
 keep:=fun i h h' st k=>by
  obtain ⟨⟨old,hE⟩,ha⟩:=st
  exact ⟨⟨old,k e (by simp) _ hE⟩,ha.at fun o z=>k it (by simp) o z⟩
 item:=by
  intro X hP hw hK hc i pins s σ H E I hf st hg
  subst hP hw hK
  obtain ⟨xs,x,hx,ex⟩:=hg
  obtain ⟨⟨old,hE⟩,ha⟩:=st
  obtain ⟨i1,r1,t1,_⟩:=I.list hx
  obtain ⟨x',ex',rx⟩:=r1.get ex
  refine wpAny_pyNext_enum_item hE ha t1.isList (x:=x') (by simpa using ex') hne fun g c1 c2 c3 c4 c5=>⟨_,rfl,?_⟩
  refine wpAny_letOwnedTupleGo_enum c1 fun g' z' k'=>?_
  have nT:H s.heap.objs.size=none:=I.fresh
  have lz:s.heap.objs.size≠e:=Nat.ne_of_gt (Zn_ hE)
  have IA:Inv X pins σ (upd H s.heap.objs.size (.tup [.int (i:Int),x])) { s with heap:=s.heap.push { cls:=.type "tuple",data:=.seq #[.int (i:Int) s.toks,x'] },toks:=s.toks + 1 }:=
   I.laid (t':=s.toks + 1) (fun c o z=>Zc_ _ z) (Zd_ _) (show ObjOk X.prog X.w _ _ _ (.tup [.int (i:Int),x]) from ⟨by show 2<=sizeLine; decide,[.int (i:Int) s.toks,x'],.cons ⟨_,rfl⟩ (.cons rx .nil),⟨_,Zm_ _ rfl,rfl,_,rfl⟩⟩)
  have fp:∀c∈[e,it],FpOk X pins (upd H s.heap.objs.size (.tup [.int (i:Int),x])) c:=fun c hc'=>by
   obtain ⟨f0,f1,f2,f3,f4,f5⟩:=hf c hc'
   refine ⟨?_,f1,f2,f3,f4,f5⟩
   rw [C8]
   ·exact f0
   ·have lt:c < s.heap.objs.size:=by
     simp only [List.mem_cons,List.not_mem_nil,or_false] at hc'
     rcases hc' with rfl | rfl
     ·exact Zn_ hE
     ·obtain ⟨_,z,_⟩:=ha; exact Zn_ z
    exact Zs_ lt
  have IB:Inv X pins σ (upd H s.heap.objs.size (.tup [.int (i:Int),x])) { s with heap:=g',toks:=s.toks + 1 }:=by
   refine IA.turnedL (t':=s.toks + 1) (h':=g') (fun c o hc' z=>?_) fp
   simp only [List.mem_cons,List.not_mem_nil,or_false,not_or] at hc'
   refine k'.extBut _ _ hc'.1 ?_
   by_cases hcT:c=s.heap.objs.size
   ·subst hcT
    have e1:(s.heap.push { cls:=.type "tuple",data:=.seq #[.int (i:Int) s.toks,x'] }).get? s.heap.objs.size=some { cls:=.type "tuple",data:=.seq #[.int (i:Int) s.toks,x'] }:=Zm_ _ rfl
    have e2:=e1.symm.trans z
    rw [<-Θo e2]
    exact c3
   ·exact c5 c o hc'.1 hc'.2 (by
     have e1:(s.heap.push { cls:=.type "tuple",data:=.seq #[.int (i:Int) s.toks,x'] }).get? c=s.heap.get? c:=Heap.get?_push_ne _ _ _ hcT
     rw [<-e1]; exact z)
  refine ⟨.ref s.heap.objs.size,_,IB,rfl,⟨_,x,rfl,nT,fun zs hz=>by rw [I.list_inj hz hx]; exact ex,rfl⟩,⟨⟨x',?_⟩,c2.extBut k'.extBut hne.symm⟩,fun c hc'=>(fp c hc').1⟩
  have ei:((i + 1:Nat):Int)=(i:Int) + 1:=Int.natCast_succ i
  rw [ei]
  exact z'
 done:=by
  intro X hP hw hK hc i pins s σ H E I hf st hg
  subst hP hw hK
  obtain ⟨xs,hx,hl⟩:=hg
  obtain ⟨⟨old,hE⟩,ha⟩:=st
  obtain ⟨i1,r1,t1,_⟩:=I.list hx
  have len:=r1.length
  refine wpAny_pyNext_enum_end (I.ok.hd hc) hE ha t1.isList (by simp; omega) fun g hk=>⟨rfl,?_⟩
  refine I.turnedL (t':=s.toks) (h':=g) (ch:=[e,it]) (fun c o hc' z=>?_) hf
  simp only [List.mem_cons,List.not_mem_nil,or_false,not_or] at hc'
  exact hk c o hc'.2 z
 self:=fun _ _ _ _ _ st h=>by
  obtain ⟨⟨old,hE⟩,_⟩:=st
  exact wpAny_pyIter_enum hE h
noncomputable def Aem (K:Θf) (ta:TA):TI:=fun σ H R=>ta σ H fun vs H1=>∃(l:Addr) (xs:List V),vs=[.ref l]/\SqL K H1 l xs/\R (Itn K l) H1
theorem Dy {K:Θf} {es:List Expr} {n:Nat} {tp:Pos} {e1:Expr} {ta:TA} {np pos:Pos} (hK:X.K=K) (hg:Gl X "enumerate") (hm:X.mg "enumerate" = none) (ha:PA X [e1] ta)
  (hs:starEach [e1] X.env=[(false,eval e1 X.env)]:=by rfl) :
  PI X (.Tuple es n tp) (.Call (.Name "enumerate" np) [e1] [] pos) (Aem K ta):=by
 subst hK
 intro pins s σ H R I h
 refine Call_ (Z7 I hg hm boot_enumerate (PyProof.Rows.callWith_type1 (thn (ha pos pins s σ H _ I h) fun us s1 ⟨vs,H1,I1,r1,q1⟩=>?_) (by rw [hs]; rfl) (by rfl)))
 obtain ⟨l,xs,rfl,hl,r⟩:=q1
 obtain ⟨u1,rfl,ru1⟩:=r1.one
 cases ru1
 obtain ⟨i1,v1,t1,_⟩:=I1.list hl
 refine call_enumerate_list t1.isList fun g hE hi hz hk=>?_
 refine wpAny_pyIter_enum hE ⟨s1.heap.objs.size + 1,[s1.heap.objs.size + 1,s1.heap.objs.size],tnN (s1.heap.objs.size + 1) s1.heap.objs.size l,Itn X.K l,H1,rfl,I1.kept (t':=s1.toks) hk,Ul (Nat.succ_ne_self _),⟨⟨_,hE⟩,hi⟩,fun c hc=>?_,r⟩
 have lc:s1.heap.objs.size<=c:=by
  simp only [List.mem_cons,List.not_mem_nil,or_false] at hc
  rcases hc with rfl | rfl <;> omega
 exact I1.fpOk lc (I1.hok.fresh lc)
theorem Ar {K:Θf} {l:Addr} {xs:List V} {g:TG} {tb:TS} {D:Ends} {σ:St} {H:Hp} (Pv:Nat->St->Hp->Prop) (h0:Pv 0 σ H) (hl:∀i σ H,i<=xs.length->Pv i σ H->SqL K H l xs)
  (hs:∀i x σ H t,xs[i]? = some x->Pv i σ H->H t=none->g (.ref t) σ (upd H t (.tup [.int (i:Int),x])) fun σ2 H2=>tb { D with nx:=Pv (i + 1),ct:=Pv (i + 1),bk:=D.nx } σ2 H2) (hd:∀σ H,Pv xs.length σ H->D.nx σ H) :
  ∃W:Nat->Nat->St->Hp->Prop,(∃m,W 0 m σ H)/\∀i m σ H,W i m σ H->
   ((Itn K l).stop i H/\D.nx σ H)\/((Itn K l).go i H/\∃N:St->Hp->Prop,(∀σ' H',N σ' H'->∃m',m' < m/\W (i + 1) m' σ' H')/\∀x H',(Itn K l).yld i H x H'->g x σ H' fun σ2 H2=>tb { D with nx:=N,ct:=N,bk:=D.nx } σ2 H2):=by
 refine ⟨fun i m σ H=>m=xs.length - i/\i<=xs.length/\Pv i σ H,⟨xs.length,by simp,Nat.zero_le _,h0⟩,?_⟩
 rintro i m σ H ⟨rfl,hi,pv⟩
 have h1:=hl i σ H hi pv
 by_cases lt:i < xs.length
 ·refine .inr ⟨⟨xs,xs[i],h1,by simp [lt]⟩,Pv (i + 1),fun σ' H' p'=>⟨xs.length - (i + 1),by omega,rfl,lt,p'⟩,fun v H' yv=>?_⟩
  obtain ⟨t,x,rfl,nt,a3,rfl⟩:=yv
  exact hs i x σ H t (a3 xs h1) pv nt
 ·obtain rfl:i=xs.length:=by omega
  exact .inl ⟨⟨xs,h1,Zd_ _⟩,hd σ H pv⟩
end
mutual
inductive DV (K:Θf) (H:Hp):V->PyData->Prop
 | non:DV K H .non .none
 | bl (b:Bool):DV K H (.bl b) (.bool b)
 | int (i:Int):DV K H (.int i) (.int i)
 | str (x:Str):DV K H (.str x) (.str x)
 | lst {a:Addr} {xs:List V} {ds:List PyData}:SqL K H a xs->DVs K H xs ds->DV K H (.ref a) (.list ds)
 | tup {a:Addr} {xs:List V} {ds:List PyData}:SqT K H a xs->DVs K H xs ds->DV K H (.ref a) (.tuple ds)
inductive DVs (K:Θf) (H:Hp):List V->List PyData->Prop
 | nil:DVs K H [] []
 | cons {x:V} {xs:List V} {d:PyData} {ds:List PyData}:DV K H x d->DVs K H xs ds->DVs K H (x :: xs) (d :: ds)
end
section
variable {X:Cx} {K:Θf} {pins:List (Addr × Obj)} {σ:St} {H:Hp} {s:Shared}
mutual
theorem DV.reads (I:Inv X pins σ H s):∀{v:V} {d:PyData} {u:Value},DV X.K H v d->RelV v u->∃as,Reads s.heap u d as
 | _,_,_,.non,r=>by obtain rfl:=(show _=Value.none from r); exact ⟨_,Reads.none⟩
 | _,_,_,.bl b,r=>by obtain rfl:=(show _=Value.bool b from r); exact ⟨_,Reads.bool b⟩
 | _,_,_,.int i,r=>by obtain ⟨t,rfl⟩:=r; exact ⟨_,.int i t⟩
 | _,_,_,.str x,r=>by obtain ⟨t,rfl⟩:=r; exact ⟨_,.str x t⟩
 | _,_,_,.lst (a:=a) hx hs,r=>by
  obtain rfl:=(show _=Value.ref a from r)
  obtain ⟨its,rv,pl,_⟩:=I.list hx
  obtain ⟨as,ra⟩:=DVs.reads I hs rv
  obtain ⟨o,ho,hc,n,hd⟩:=pl.isList
  exact ⟨_,.list ho hc hd ra⟩
 | _,_,_,.tup (a:=a) hx hs,r=>by
  obtain rfl:=(show _=Value.ref a from r)
  obtain ⟨its,rv,pl,_⟩:=I.tuple hx
  obtain ⟨as,ra⟩:=DVs.reads I hs rv
  obtain ⟨o,ho,hc,n,hd⟩:=pl
  exact ⟨_,.tuple ho hc hd ra⟩
theorem DVs.reads (I:Inv X pins σ H s):∀{vs:List V} {ds:List PyData} {us:List Value},DVs X.K H vs ds->Vals vs us->∃as,ReadsAll s.heap us ds as
 | _,_,_,.nil,.nil=>⟨_,.nil⟩
 | _,_,_,.cons h hs,.cons r rs=>by
  obtain ⟨as,ra⟩:=DV.reads I h r
  obtain ⟨bs,rb⟩:=DVs.reads I hs rs
  exact ⟨_,.cons ra rb⟩
end
noncomputable def Afw (K:Θf) (neg:Bool):R2:=fun x y H Q=>∃d1 d2:PyData,DV K H x d1/\DV K H y d2/\SeqAt.shaped d1=true/\SeqAt.shaped d2=true/\SeqAt.noMix d1 d2=true/\Q (.bl (if neg then !same d1 d2 else same d1 d2)) H
theorem Jr (h:X.K=K) (hu:X.A.units + 64 < cLine):OpR X (compareOp .Eq) (Afw K false):=by
 subst h
 intro pins s σ H x y v u Q I rx ry h
 obtain ⟨d1,d2,h1,h2,s1,s2,nm,q⟩:=h
 obtain ⟨as,ra⟩:=h1.reads I rx
 obtain ⟨bs,rb⟩:=h2.reads I ry
 exact eq_dataH_same ra rb s1 s2 hu nm ⟨.bl _,H,I,rfl,q⟩
end
section
variable {α:Type} {f:α->PyData}
theorem Dj [DecidableEq α] (h:∀a b,same (f a) (f b)=decide (a=b)):∀xs ys:List α,sameAll (xs.map f) (ys.map f)=decide (xs=ys)
 | [],[]=>by simp [sameAll]
 | [],_ :: _=>by simp [sameAll]
 | _ :: _,[]=>by simp [sameAll]
 | x :: xs,y :: ys=>by
  simp only [List.map_cons,sameAll,h,Dj h xs ys]
  by_cases e:x=y <;> simp [e]
theorem Bc (h:∀a b,SeqAt.noMix (f a) (f b)=true):∀xs ys:List α,SeqAt.noMixAll (xs.map f) (ys.map f)=true
 | [],[]=>by simp [SeqAt.noMixAll]
 | [],_ :: _=>by simp [SeqAt.noMixAll]
 | _ :: _,[]=>by simp [SeqAt.noMixAll]
 | x :: xs,y :: ys=>by simp [SeqAt.noMixAll,h,Bc h xs ys]
theorem Ao {n:Nat} (h:∀a,PyData.depth (f a)<=n):∀xs:List α,PyData.depthAll (xs.map f)<=n
 | []=>by simp [PyData.depthAll]
 | x :: xs=>by
  have h1:=h x
  have h2:=Ao h xs
  simp only [List.map_cons,PyData.depthAll]
  omega
end
section
variable {X:Cx} {K:Θf} {e:Expr} {te:TE} {ste:Expr} {tst:TO} {pos p2:Pos}
end
theorem Lg (xs:List V) (k:Nat):R8 xs none (some (k:Int))=xs.take k:=by
 unfold R8
 show (xs.drop 0).take (HT.sIx xs.length xs.length (some ((k:Nat):Int)) - 0)=_
 rw [HT.sIx_nat,List.drop_zero,Nat.sub_zero,List.take_eq_take_iff]
 omega
theorem Lf (xs:List V) (k:Nat):R8 xs (some (k:Int)) none=xs.drop k:=by
 unfold R8
 rw [HT.sIx_nat,HT.sIx_none]
 by_cases h:k<=xs.length
 ·rw [Nat.min_eq_left h,List.take_of_length_le (by rw [List.length_drop]; exact Zd_ _)]
 ·rw [Nat.min_eq_right (by omega),List.drop_eq_nil_of_le (Zd_ _),List.drop_eq_nil_of_le (by omega),List.take_nil]
theorem Same.none {H H':Hp} {p:Addr} (e:Same H H') (h:H' p=none):H p=none:=by
 cases z:H p with
 | none=>rfl
 | some o=>rw [e _ _ z] at h; cases h
noncomputable def Bp (K:Θf):Sp:=fun vs H Q _=>∃(sc:Addr) (ns:List Int) (k:Nat),vs=[.ref sc,vN k]/\SqL K H sc (ns.map V.int)/\k<=1000/\∀c:Nat,c < 2147483629->Q (vN c) H
noncomputable def Mt:Sp:=fun vs H Q _=>∃c m:Nat,vs=[vN c,vN m]/\c < 2 ^ 32/\1<=m/\m<=7/\∀(st:Bool) (x y:Nat) (r:Addr) (H':Hp),x < 2 ^ m->y < 2 ^ m->Same H H'->H r=none->K8 H' r st x y->Q (.ref r) H'
noncomputable def F9 (st:Bool) (x y b:Nat):Bool:=decide (x&&&b=0) && !decide (y&&&b=0) && (st || !decide (y&&&b=b))
noncomputable def Ga:Sp:=fun vs H Q _=>∃(r:Addr) (st:Bool) (x y b:Nat),vs=[.ref r,vN b]/\K8 H r st x y/\Q (.bl (F9 st x y b)) H
noncomputable def inN (y:Nat) (bs:List Nat) (at_:Nat):Nat:=bs.getD at_ 0&&&y
noncomputable def Q5 (y:Nat) (bs:List Nat) (at_:Nat):Nat:=bs.getD at_ 0 - inN y bs at_
noncomputable def R0 (st:Bool) (y fx:Nat) (bs:List Nat) (at_:Nat):Nat:=if st=true then fx + inN y bs at_ else fx
noncomputable def F6 (st:Bool) (y:Nat) (bs:List Nat) (at_:Nat):List Nat:=
 bs.take at_++(if st=true then (if 0 < Q5 y bs at_ then [Q5 y bs at_] else []) else [inN y bs at_,Q5 y bs at_])++bs.drop (at_ + 1)
end L2
namespace L2
end L2
namespace L2
theorem Op:∀(a b:Nat),a&&&b=0->a|||b=a + b:=by
 intro a
 induction a using Nat.strongRecOn with
 | _ a ih=>
  intro b h
  by_cases a0:a=0
  ·subst a0; simp
  have i:=ih (a / 2) (by omega) (b / 2) (by rw [<-Nat.and_div_two,h])
  rw [<-Nat.or_div_two] at i
  have m1:=Nat.and_mod_two_eq_one (a:=a) (b:=b)
  have m2:=Nat.or_mod_two_eq_one (a:=a) (b:=b)
  rw [h] at m1
  omega
theorem dis_iff {a b:Nat}:a&&&b=0↔∀k,a.testBit k=true->b.testBit k=false:=by
 constructor
 ·intro h k ha
  have e:(a&&&b).testBit k=(0:Nat).testBit k:=by rw [h]
  rw [Nat.testBit_and,Nat.zero_testBit,ha,Bool.true_and] at e
  exact e
 ·intro h
  refine Nat.eq_of_testBit_eq fun k=>?_
  rw [Nat.testBit_and,Nat.zero_testBit]
  cases ha:a.testBit k with
  | false=>rfl
  | true=>rw [h k ha]; rfl
theorem V9 {a b:Nat} (h:a&&&b=0):b&&&a=0:=by rw [Nat.and_comm]; exact h
noncomputable def Z0 (c b:Nat):Prop:=∀k,c.testBit k=true->b.testBit k=true
theorem Q1 {a b c:Nat} (h:a&&&b=0) (s:Z0 c b):a&&&c=0:=dis_iff.mpr fun k ha=>by
 cases hc:c.testBit k with
 | false=>rfl
 | true=>have:=dis_iff.mp h k ha; rw [s k hc] at this; exact this
theorem Lh {a b c:Nat} (h:b&&&a=0) (s:Z0 c b):c&&&a=0:=V9 (Q1 (V9 h) s)
theorem Abl (b y:Nat):b - (b&&&y)=b ^^^ (b&&&y):=by
 have h0:(b ^^^ (b&&&y))&&&(b&&&y)=0:=dis_iff.mpr fun k h=>by
  rw [Nat.testBit_xor,Nat.testBit_and] at h
  rw [Nat.testBit_and]
  cases hb:b.testBit k <;> cases hy:y.testBit k <;> rw [hb,hy] at h <;> first | rfl | (simp at h)
 have h1:(b ^^^ (b&&&y))|||(b&&&y)=b:=by
  refine Nat.eq_of_testBit_eq fun k=>?_
  rw [Nat.testBit_or,Nat.testBit_xor,Nat.testBit_and]
  cases hb:b.testBit k <;> cases hy:y.testBit k <;> rfl
 have h2:=Op _ _ h0
 omega
theorem Po (b y k:Nat):(b - (b&&&y)).testBit k=(b.testBit k && !y.testBit k):=by
 rw [Abl,Nat.testBit_xor,Nat.testBit_and]
 cases b.testBit k <;> cases y.testBit k <;> rfl
theorem Ct (b y:Nat):Z0 (b&&&y) b:=fun k h=>by
 rw [Nat.testBit_and,Bool.and_eq_true] at h
 exact h.1
theorem Y9 (b y:Nat):Z0 (b - (b&&&y)) b:=fun k h=>by
 rw [Po,Bool.and_eq_true] at h
 exact h.1
theorem En (b y:Nat):(b&&&y)&&&(b - (b&&&y))=0:=dis_iff.mpr fun k h=>by
 rw [Nat.testBit_and,Bool.and_eq_true] at h
 rw [Po,h.1,h.2]; rfl
theorem Vp {m x:Nat} (h:x < 2 ^ m):x&&&(2 ^ m - 1 - x)=0:=dis_iff.mpr fun k hk=>by
 have e:2 ^ m - 1 - x=2 ^ m - (x + 1):=by omega
 rw [e,Nat.testBit_two_pow_sub_succ h,hk]
 simp
structure Good (m fx:Nat) (bs:List Nat):Prop where
 sum:fx + bs.sum=2 ^ m - 1
 pos:∀b∈bs,0 < b
 dis:∀b∈bs,fx&&&b=0
 pw:bs.Pairwise fun a b=>a&&&b=0
theorem Az:∀{bs:List Nat},(∀b∈bs,0 < b)->bs.length<=bs.sum
 | [],_=>Zd_ _
 | b :: bs,h=>by
  have h1:=h b (Θc ..)
  have h2:=Az (bs:=bs) fun c hc=>h c (Θd _ hc)
  rw [ZA,List.sum_cons]
  omega
theorem Jm:∀{bs:List Nat} {b:Nat},b∈bs->b<=bs.sum
 | c :: bs,b,h=>by
  rw [List.sum_cons]
  rcases Zg_.mp h with rfl | h
  ·omega
  ·have:=Jm h
   omega
theorem Gj {m:Nat} (h:m<=7):2 ^ m<=128:=Nat.pow_le_pow_right (by decide) h
theorem Good.len {m fx:Nat} {bs:List Nat} (g:Good m fx bs) (h:m<=7):bs.length<=127:=by
 have h1:=Az g.pos
 have h2:=g.sum
 have h3:=Gj h
 omega
theorem Good.lt {m fx:Nat} {bs:List Nat} (g:Good m fx bs) {b:Nat} (hb:b∈bs):b < 2 ^ m:=by
 have h1:=Jm hb
 have h2:=g.sum
 have h3:=Nat.two_pow_pos m
 omega
theorem Br {bs:List Nat} {i:Nat} (h:i < bs.length):bs=bs.take i++bs.getD i 0 :: bs.drop (i + 1):=by
 have e:bs.getD i 0=bs[i]:=by rw [Zu_,Θh h]; rfl
 rw [e,<-List.drop_eq_getElem_cons h,List.take_append_drop]
theorem Ip {st:Bool} {x y b:Nat} (h:F9 st x y b=true):x&&&b=0/\0 < b&&&y/\(st=true\/b&&&y < b):=by
 unfold F9 at h
 rw [Bool.and_eq_true,Bool.and_eq_true] at h
 obtain ⟨⟨h1,h2⟩,h3⟩:=h
 have e1:=Zj_ h1
 have e2:¬(y&&&b=0):=by
  intro z; rw [Zr_ z] at h2; cases h2
 rw [Nat.and_comm] at e2
 refine ⟨e1,by omega,?_⟩
 rw [Bool.or_eq_true] at h3
 rcases h3 with h3 | h3
 ·exact .inl h3
 ·right
  have e3:¬(y&&&b=b):=by
   intro z; rw [Zr_ z] at h3; cases h3
  rw [Nat.and_comm] at e3
  have:=Nat.and_le_left (n:=b) (m:=y)
  omega
theorem Good.use {m fx:Nat} {bs:List Nat} (g:Good m fx bs) {st:Bool} {x y i:Nat} (hi:i < bs.length) (hu:F9 st x y (bs.getD i 0)=true) :
  Good m (R0 st y fx bs i) (F6 st y bs i)/\2 * (F6 st y bs i).sum - (F6 st y bs i).length < 2 * bs.sum - bs.length:=by
 obtain ⟨_,hin,hout⟩:=Ip hu
 have e:=Br hi
 have ls:=Az g.pos
 unfold R0 F6 Q5 inN
 generalize bs.getD i 0=b at e hin hout
 generalize bs.take i=p at e
 generalize bs.drop (i + 1)=q at e
 subst e
 have le:b&&&y<=b:=Nat.and_le_left
 obtain ⟨sm,ps,ds,pw⟩:=g
 have hb:b∈p++b :: q:=Zh_ _ (Θc ..)
 have hp:∀c∈p,c∈p++b :: q:=fun c hc=>Zt_ _ hc
 have hq:∀c∈q,c∈p++b :: q:=fun c hc=>Zh_ _ (Θd _ hc)
 have db:=ds b hb
 rw [List.pairwise_append,List.pairwise_cons] at pw
 obtain ⟨pp,⟨bq,qq⟩,pq⟩:=pw
 have pb:∀c∈p,c&&&b=0:=fun c hc=>pq c hc b (Θc ..)
 have pq':∀c∈p,∀d∈q,c&&&d=0:=fun c hc d hd=>pq c hc d (Θd _ hd)
 have sm':(p++b :: q).sum=p.sum + (b + q.sum):=by rw [List.sum_append,List.sum_cons]
 have ln':(p++b :: q).length=p.length + (q.length + 1):=by rw [Zv_,ZA]
 rw [sm'] at sm ls
 rw [sm',ln']
 rw [ln'] at ls
 have lp:p.length<=p.sum:=Az fun c hc=>ps c (hp c hc)
 have lq:q.length<=q.sum:=Az fun c hc=>ps c (hq c hc)
 have orfx:∀c,fx&&&c=0->(b&&&y)&&&c=0->(fx + (b&&&y))&&&c=0:=fun c h1 h2=>by
  rw [<-Op _ _ (Q1 db (Ct b y))]
  refine dis_iff.mpr fun k hk=>?_
  rw [Nat.testBit_or,Bool.or_eq_true] at hk
  rcases hk with hk | hk
  ·exact dis_iff.mp h1 k hk
  ·exact dis_iff.mp h2 k hk
 have inp:∀c∈p,(b&&&y)&&&c=0:=fun c hc=>V9 (Q1 (pb c hc) (Ct b y))
 have inq:∀c∈q,(b&&&y)&&&c=0:=fun c hc=>Lh (bq c hc) (Ct b y)
 have outp:∀c∈p,c&&&(b - (b&&&y))=0:=fun c hc=>Q1 (pb c hc) (Y9 b y)
 have outq:∀c∈q,(b - (b&&&y))&&&c=0:=fun c hc=>Lh (bq c hc) (Y9 b y)
 cases st with
 | true=>
  simp only [if_true]
  by_cases ho:0 < b - (b&&&y)
  ·rw [if_pos ho]
   refine ⟨⟨?_,?_,?_,?_⟩,?_⟩
   ·rw [Zy_,List.sum_append,List.singleton_append,List.sum_cons]; omega
   ·intro c hc
    rcases Θa hc with hc | hc
    ·rcases Θa hc with hc | hc
     ·exact ps c (hp c hc)
     ·rw [Θs hc]; exact ho
    ·exact ps c (hq c hc)
   ·intro c hc
    rcases Θa hc with hc | hc
    ·rcases Θa hc with hc | hc
     ·exact orfx c (ds c (hp c hc)) (inp c hc)
     ·rw [Θs hc]; exact orfx _ (Q1 db (Y9 b y)) (En b y)
    ·exact orfx c (ds c (hq c hc)) (inq c hc)
   ·rw [Zy_,List.singleton_append,List.pairwise_append,List.pairwise_cons]
    refine ⟨pp,⟨outq,qq⟩,fun c hc d hd=>?_⟩
    rcases Zg_.mp hd with rfl | hd
    ·exact outp c hc
    ·exact pq' c hc d hd
   ·rw [Zy_,List.sum_append,List.singleton_append,List.sum_cons,Zv_,ZA]; omega
  ·rw [if_neg ho,List.append_nil]
   refine ⟨⟨?_,?_,?_,?_⟩,?_⟩
   ·rw [List.sum_append]; omega
   ·intro c hc
    rcases Θa hc with hc | hc
    ·exact ps c (hp c hc)
    ·exact ps c (hq c hc)
   ·intro c hc
    rcases Θa hc with hc | hc
    ·exact orfx c (ds c (hp c hc)) (inp c hc)
    ·exact orfx c (ds c (hq c hc)) (inq c hc)
   ·rw [List.pairwise_append]
    exact ⟨pp,qq,pq'⟩
   ·rw [List.sum_append,Zv_]; omega
 | false=>
  have ho:0 < b - (b&&&y):=by
   rcases hout with h | h
   ·cases h
   ·omega
  simp only [Bool.false_eq_true,if_false]
  rw [Zy_,List.cons_append,List.cons_append,List.nil_append]
  refine ⟨⟨?_,?_,?_,?_⟩,?_⟩
  ·rw [List.sum_append,List.sum_cons,List.sum_cons]; omega
  ·intro c hc
   rcases Θa hc with hc | hc
   ·exact ps c (hp c hc)
   ·rcases Zg_.mp hc with rfl | hc
    ·exact hin
    ·rcases Zg_.mp hc with rfl | hc
     ·exact ho
     ·exact ps c (hq c hc)
  ·intro c hc
   rcases Θa hc with hc | hc
   ·exact ds c (hp c hc)
   ·rcases Zg_.mp hc with rfl | hc
    ·exact Q1 db (Ct b y)
    ·rcases Zg_.mp hc with rfl | hc
     ·exact Q1 db (Y9 b y)
     ·exact ds c (hq c hc)
  ·rw [List.pairwise_append,List.pairwise_cons,List.pairwise_cons]
   refine ⟨pp,⟨fun d hd=>?_,outq,qq⟩,fun c hc d hd=>?_⟩
   ·rcases Zg_.mp hd with rfl | hd
    ·exact En b y
    ·exact inq d hd
   ·rcases Zg_.mp hd with rfl | hd
    ·exact V9 (inp c hc)
    ·rcases Zg_.mp hd with rfl | hd
     ·exact outp c hc
     ·exact pq' c hc d hd
  ·rw [List.sum_append,List.sum_cons,List.sum_cons,Zv_,ZA,ZA]; omega
noncomputable def E9 (m x:Nat):List Nat:=if x < 2 ^ m - 1 then [2 ^ m - 1 - x] else []
theorem Good.begin {m x:Nat} (h:x < 2 ^ m):Good m x (E9 m x):=by
 unfold E9
 split
 ·refine ⟨by simp; omega,fun b hb=>?_,fun b hb=>?_,List.pairwise_singleton _ _⟩
  ·rw [Θs hb]; omega
  ·rw [Θs hb]; exact Vp h
 ·exact ⟨by simp; omega,fun b hb=>absurd hb List.not_mem_nil,fun b hb=>absurd hb List.not_mem_nil,List.Pairwise.nil⟩
noncomputable abbrev RD:=Bool × Nat × Nat
noncomputable def usB (r:RD) (b:Nat):Bool:=F9 r.1 r.2.1 r.2.2 b
noncomputable def V5 (r:RD) (k:Nat) (bs:List Nat) (n:Nat):List (Nat × Nat):=((List.range n).filter fun a=>usB r (bs.getD a 0)).map fun a=>(k,a)
noncomputable def M8 (rs:List RD) (k:Nat):RD:=rs.getD k (false,0,0)
noncomputable def L4 (rs:List RD) (bs:List Nat) (i:Nat):List (Nat × Nat):=(List.range i).flatMap fun k=>V5 (M8 rs k) k bs bs.length
theorem Al (r:RD) (k:Nat) (bs:List Nat) (n:Nat):V5 r k bs (n + 1)=V5 r k bs n++(if usB r (bs.getD n 0)=true then [(k,n)] else []):=by
 unfold V5
 rw [List.range_succ,List.filter_append,Zw_]
 congr 1
 cases h:usB r (bs.getD n 0) <;> simp only [List.filter_cons,List.filter_nil,h] <;> rfl
theorem Ak (rs:List RD) (bs:List Nat) (i:Nat):L4 rs bs (i + 1)=L4 rs bs i++V5 (M8 rs i) i bs bs.length:=by
 unfold L4
 rw [List.range_succ,List.flatMap_append,List.flatMap_cons,List.flatMap_nil,List.append_nil]
theorem Su {r:RD} {k n:Nat} {bs:List Nat} {u:Nat × Nat} (h:u∈V5 r k bs n):u.1=k/\u.2 < n/\usB r (bs.getD u.2 0)=true:=by
 unfold V5 at h
 obtain ⟨a,ha,rfl⟩:=Θn h
 obtain ⟨h1,h2⟩:=List.mem_filter.mp ha
 exact ⟨rfl,List.mem_range.mp h1,h2⟩
theorem T8 {rs:List RD} {bs:List Nat} {i:Nat} {u:Nat × Nat} (h:u∈L4 rs bs i):u.1 < i/\u.2 < bs.length/\usB (M8 rs u.1) (bs.getD u.2 0)=true:=by
 unfold L4 at h
 obtain ⟨k,hk,hu⟩:=List.mem_flatMap.mp h
 obtain ⟨rfl,h2,h3⟩:=Su hu
 exact ⟨List.mem_range.mp hk,h2,h3⟩
theorem Zg {rs:List RD} {bs:List Nat} (h:L4 rs bs rs.length=[]) {r:RD} (hr:r∈rs) {b:Nat} (hb:b∈bs):usB r b=false:=by
 cases e:usB r b with
 | false=>rfl
 | true=>
  exfalso
  obtain ⟨k,hk,rfl⟩:=List.getElem_of_mem hr
  obtain ⟨a,ha,rfl⟩:=List.getElem_of_mem hb
  have e1:M8 rs k=rs[k]:=by unfold M8; rw [List.getD_eq_getElem?_getD,Θh hk]; rfl
  have e2:bs.getD a 0=bs[a]:=by rw [Zu_,Θh ha]; rfl
  have:(k,a)∈L4 rs bs rs.length:=by
   unfold L4
   refine List.mem_flatMap.mpr ⟨k,List.mem_range.mpr hk,?_⟩
   unfold V5
   refine Θm ⟨a,List.mem_filter.mpr ⟨List.mem_range.mpr ha,?_⟩,rfl⟩
   rw [e1,e2]; exact e
  rw [h] at this
  exact absurd this Zi_
structure US where
 fx:Nat
 bs:List Nat
 st:List (Nat × Nat)
noncomputable def S6 (rs:List RD) (s:US) (u:Nat × Nat):US:=
 ⟨R0 (M8 rs u.1).1 (M8 rs u.1).2.2 s.fx s.bs u.2,F6 (M8 rs u.1).1 (M8 rs u.1).2.2 s.bs u.2,s.st++[(u.1,s.bs.getD u.2 0)]⟩
inductive Run (rs:List RD):US->US->Prop
 | done {s:US}:L4 rs s.bs rs.length=[]->Run rs s s
 | step {s t:US} {u:Nat × Nat} {us:List (Nat × Nat)}:L4 rs s.bs rs.length=u :: us->Run rs (S6 rs s u) t->Run rs s t
theorem Run.det {rs:List RD} {s t:US} (h:Run rs s t):∀{t':US},Run rs s t'->t=t':=by
 induction h with
 | done h=>
  intro t' h'
  cases h' with
  | done _=>rfl
  | step e _=>rw [h] at e; cases e
 | step e _ ih=>
  intro t' h'
  cases h' with
  | done h=>rw [h] at e; cases e
  | step e' r'=>
   rw [e] at e'
   injection e' with e1 e2
   subst e1
   exact ih r'
noncomputable def muS (bs:List Nat):Nat:=2 * bs.sum - bs.length
theorem Im {rs:List RD} {s:US} {u:Nat × Nat} {m:Nat} (g:Good m s.fx s.bs) (h:u∈L4 rs s.bs rs.length):Good m (S6 rs s u).fx (S6 rs s u).bs/\muS (S6 rs s u).bs < muS s.bs:=by
 obtain ⟨_,h2,h3⟩:=T8 h
 exact g.use h2 h3
theorem Abk (rs:List RD) (s:US) (u:Nat × Nat):(S6 rs s u).st.length=s.st.length + 1:=by
 unfold S6
 rw [Zv_]; rfl
theorem Ir (r:RD) (k:Nat) (bs:List Nat) (j:Nat):∀d,∃z,V5 r k bs (j + d)=V5 r k bs j++z
 | 0=>⟨[],by rw [List.append_nil]; rfl⟩
 | d + 1=>by
  obtain ⟨z,e⟩:=Ir r k bs j d
  exact ⟨_,by rw [<-Nat.add_assoc,Al,e,Zy_]⟩
theorem Iq (rs:List RD) (bs:List Nat) (i:Nat):∀d,∃z,L4 rs bs (i + d)=L4 rs bs i++z
 | 0=>⟨[],by rw [List.append_nil]; rfl⟩
 | d + 1=>by
  obtain ⟨z,e⟩:=Iq rs bs i d
  exact ⟨_,by rw [<-Nat.add_assoc,Ak,e,Zy_]⟩
theorem Pu {rs:List RD} {bs:List Nat} {i j n:Nat} (h0:L4 rs bs i=[]) (h1:V5 (M8 rs i) i bs j=[]) (hi:i < n) (hj:j < bs.length) (hu:usB (M8 rs i) (bs.getD j 0)=true):∃us,L4 rs bs n=(i,j) :: us:=by
 obtain ⟨z,e⟩:=Iq rs bs (i + 1) (n - (i + 1))
 obtain ⟨z',e'⟩:=Ir (M8 rs i) i bs (j + 1) (bs.length - (j + 1))
 rw [show i + 1 + (n - (i + 1))=n by omega] at e
 rw [show j + 1 + (bs.length - (j + 1))=bs.length by omega,Al,h1,if_pos hu] at e'
 rw [e,Ak,h0,e']
 exact ⟨_,rfl⟩
theorem Pt {st:Bool} {x y b d:Nat} (hu:F9 st x y b=true) (hd:F9 st x y d=false) (s:Z0 d b):y&&&d=0\/(st=false/\y&&&d=d):=by
 obtain ⟨h1,_,_⟩:=Ip hu
 have h2:x&&&d=0:=Q1 h1 s
 unfold F9 at hd
 rw [Zr_ h2,Bool.true_and] at hd
 by_cases h3:y&&&d=0
 ·exact .inl h3
 ·right
  rw [decide_eq_false h3,Bool.not_false,Bool.true_and,Bool.or_eq_false_iff] at hd
  refine ⟨hd.1,?_⟩
  by_cases h4:y&&&d=d
  ·exact h4
  ·rw [decide_eq_false h4] at hd; cases hd.2
theorem Aad {st:Bool} {x y d i:Nat} {bs:List Nat} (hi:i < bs.length) (hu:F9 st x y (bs.getD i 0)=true) (hd:F9 st x y d=false) (d0:d≠0) (h:∃b∈bs,Z0 d b):∃b∈F6 st y bs i,Z0 d b:=by
 obtain ⟨b,hb,hs⟩:=h
 have e:=Br hi
 unfold F6 Q5 inN
 generalize bs.getD i 0=c at e hu
 generalize bs.take i=p at e
 generalize bs.drop (i + 1)=q at e
 subst e
 rcases Θa hb with hb | hb
 ·exact ⟨b,Zt_ _ (Zt_ _ hb),hs⟩
 rcases Zg_.mp hb with rfl | hb
 ·have so:y&&&d=0->Z0 d (b - (b&&&y)):=fun z k hk=>by
   rw [Po,hs k hk,dis_iff.mp (V9 z) k hk]; rfl
  have si:y&&&d=d->Z0 d (b&&&y):=fun z k hk=>by
   have:(y&&&d).testBit k=true:=by rw [z]; exact hk
   rw [Nat.testBit_and,Bool.and_eq_true] at this
   rw [Nat.testBit_and,hs k hk,this.1]; rfl
  have ne:Z0 d (b - (b&&&y))->0 < b - (b&&&y):=fun z=>by
   apply Nat.pos_of_ne_zero
   intro e0
   apply d0
   refine Nat.eq_of_testBit_eq fun k=>?_
   rw [Nat.zero_testBit]
   cases hk:d.testBit k with
   | false=>rfl
   | true=>have:=z k hk; rw [e0,Nat.zero_testBit] at this; cases this
  rcases Pt hu hd hs with z | ⟨rfl,z⟩
  ·refine ⟨b - (b&&&y),Zt_ _ (Zh_ _ ?_),so z⟩
   cases st with
   | true=>rw [if_pos rfl,if_pos (ne (so z))]; exact List.mem_singleton.mpr rfl
   | false=>rw [if_neg Zf_]; exact Θd _ (List.mem_singleton.mpr rfl)
  ·exact ⟨b&&&y,Zt_ _ (Zh_ _ (Θc ..)),si z⟩
 ·exact ⟨b,Zh_ _ hb,hs⟩
theorem Adm {rs:List RD} {k:Nat} (h:k < rs.length):M8 rs k∈rs:=by
 unfold M8
 rw [Zu_,Θh h]
 exact List.getElem_mem h
theorem Run.good {rs:List RD} {s t:US} {m:Nat} (h:Run rs s t):Good m s.fx s.bs->Good m t.fx t.bs/\L4 rs t.bs rs.length=[]:=by
 induction h with
 | done h=>exact fun g=>⟨g,h⟩
 | step e _ ih=>exact fun g=>ih (Im g (by rw [e]; exact Θc ..)).1
theorem Run.keep {rs:List RD} {s t:US} {d:Nat} (h:Run rs s t) (d0:d≠0) (hd:∀r∈rs,usB r d=false):(∃b∈s.bs,Z0 d b)->∃b∈t.bs,Z0 d b:=by
 induction h with
 | done h=>exact id
 | step e _ ih=>
  intro z
  obtain ⟨h1,h2,h3⟩:=T8 (rs:=rs) (by rw [e]; exact Θc ..)
  exact ih (Aad h2 h3 (hd _ (Adm h1)) d0 z)
theorem Sc {m x d:Nat} (hx:x < 2 ^ m) (hd:d < 2 ^ m) (d0:d≠0) (z:d&&&x=0):∃b∈E9 m x,Z0 d b:=by
 have s:Z0 d (2 ^ m - 1 - x):=fun k hk=>by
  have e:2 ^ m - 1 - x=2 ^ m - (x + 1):=by omega
  rw [e,Nat.testBit_two_pow_sub_succ hx,dis_iff.mp z k hk]
  have:k < m:=by
   apply Nat.lt_of_not_le
   intro le
   have:d.testBit k=false:=Nat.testBit_lt_two_pow (Zq_ hd (Nat.pow_le_pow_right (by decide) le))
   rw [this] at hk; cases hk
  rw [Zr_ this]; rfl
 have lt:x < 2 ^ m - 1:=by
  apply Nat.lt_of_not_le
  intro le
  apply d0
  have e:2 ^ m - 1 - x=0:=by omega
  refine Nat.eq_of_testBit_eq fun k=>?_
  rw [Nat.zero_testBit]
  cases hk:d.testBit k with
  | false=>rfl
  | true=>have:=s k hk; rw [e,Nat.zero_testBit] at this; cases this
 unfold E9
 rw [if_pos lt]
 exact ⟨_,List.mem_singleton.mpr rfl,s⟩
theorem Nh {st:Bool} {y i k:Nat} {bs:List Nat} (hi:i < bs.length) (h:∃b∈F6 st y bs i,b.testBit k=true):∃b∈bs,b.testBit k=true:=by
 obtain ⟨b,hb,hk⟩:=h
 have e:=Br hi
 unfold F6 Q5 inN at hb
 generalize bs.getD i 0=c at e hb
 generalize bs.take i=p at e hb
 generalize bs.drop (i + 1)=q at e hb
 subst e
 rcases Θa hb with hb | hb
 ·rcases Θa hb with hb | hb
  ·exact ⟨b,Zt_ _ hb,hk⟩
  ·refine ⟨c,Zh_ _ (Θc ..),?_⟩
   cases st with
   | true=>
    rw [if_pos rfl] at hb
    split at hb
    ·rw [Θs hb] at hk; exact Y9 c y k hk
    ·exact absurd hb Zi_
   | false=>
    rw [if_neg Zf_] at hb
    rcases Zg_.mp hb with rfl | hb
    ·exact Ct c y k hk
    ·rw [Θs hb] at hk; exact Y9 c y k hk
 ·exact ⟨b,Zh_ _ (Θd _ hb),hk⟩
theorem Run.sub {rs:List RD} {s t:US} {k:Nat} (h:Run rs s t):(∃b∈t.bs,b.testBit k=true)->∃b∈s.bs,b.testBit k=true:=by
 induction h with
 | done h=>exact id
 | step e _ ih=>
  intro z
  obtain ⟨_,h2,_⟩:=T8 (rs:=rs) (by rw [e]; exact Θc ..)
  exact Nh h2 (ih z)
end L2
namespace L2
open PySem PySem.Spec PyProof.Rows
theorem Same.own {H H':Hp} {p:Addr} {o:HO} (e:Same H H') (h:H p=Option.none):Same H (upd H' p o):=fun c u z=>by
 rw [C8 (C4 z h)]
 exact e c u z
theorem Zo (b y:Nat):Builtin.bitAnd (b:Int) (Builtin.bitNot (y:Int))=((b - (b&&&y):Nat):Int):=by
 have hy:¬0<=Builtin.bitNot (y:Int):=by unfold Builtin.bitNot; omega
 have hb:0<=(b:Int):=by omega
 have le:=Nat.and_le_left (n:=b) (m:=y)
 simp only [Builtin.bitAnd,hy,hb,decide_false,decide_true,Ei,Int.toNat_natCast]
 omega
section
variable {X:Cx} {K:Θf}
theorem Y3:OpR X (binaryOp .BitAnd) (fun x y H Q=>∃a b:Nat,x=vN a/\y = .int (Builtin.bitNot (b:Int))/\Q (vN (a - (a&&&b))) H):=op_and.mono fun x y H Q ⟨a,b,h1,h2,q⟩=>⟨a,_,h1,h2,by
 show Q (V.int (Builtin.bitAnd (a:Int) (Builtin.bitNot (b:Int)))) H
 rw [Zo]; exact q⟩
theorem Qu {es:List Expr} {k:Nat} {pos:Pos} {t:TGs} {n:Nat} (hK:X.K=K) (hc:X.calm=true) (h:PGs X es t) (hn:(assignEach es X.env).length=n) (hst:(assignEach es X.env).findIdx? (·.1)=none):PG X (.Tuple es k pos) (Ael K n t):=hK ▸ W5 hc h hn hst
theorem G2 {c:Const} {k:Nat} {pos:Pos} {es:List Expr} {te:TE} {t:TA} (ha:PE X (.Constant c k pos) te) (hr:PA X es t):PA X (.Constant c k pos :: es) (Ab4 te t):=A0 ha hr rfl
end
noncomputable def Fz:Sp:=fun vs H Q _=>∃b:Nat,vs=[vN b]/\∀p,H p=none->Q (.ref p) (upd H p (.lst ((if 0 < b then [b] else []).map vN)))
noncomputable def Yz (K:Θf):Sp:=fun vs H Q _=>∃(r l:Addr) (st:Bool) (x y fx at_:Nat) (bs:List Nat),vs=[.ref r,vN fx,.ref l,vN at_]/\K8 H r st x y/\SqL K H l (bs.map vN)/\at_ < bs.length/\bs.length<=200/\fx&&&bs.getD at_ 0=0/\
 ∀(t p:Addr) (H':Hp),Same H H'->H t=none->H' t=some (.tup [vN (R0 st y fx bs at_),.ref p])->H p=none->H' p=some (.lst ((F6 st y bs at_).map vN))->Q (.ref t) H'
noncomputable def Rf (K:Θf):Sp:=fun vs H Q _=>∃m x:Nat,vs=[vN m,vN x]/\m<=7/\x < 2 ^ m/\
 ∀(t p:Addr) (H':Hp),Same H H'->H t=none->H' t=some (.tup [vN x,.ref p])->H p=none->H' p=some (.lst ((E9 m x).map vN))->Q (.ref t) H'
noncomputable def Rl.d (r:Rl):RD:=(r.st,r.x,r.y)
theorem Qy {rs:List Rl} {k:Nat} {r:Rl} (h:rs[k]? = some r):M8 (rs.map Rl.d) k=r.d:=by
 unfold M8
 rw [Zu_,Θg,h]; rfl
noncomputable def RulesAt (H:Hp) (m:Nat) (rs:List Rl):Prop:=∀r∈rs,K8 H r.r r.st r.x r.y/\r.x < 2 ^ m/\r.y < 2 ^ m
theorem RulesAt.same {H H':Hp} {m:Nat} {rs:List Rl} (h:RulesAt H m rs) (e:Same H H'):RulesAt H' m rs:=fun r hr=>⟨e _ _ (h r hr).1,(h r hr).2⟩
noncomputable def Fx (K:Θf):Sp:=fun vs H Q _=>∃(rl bl:Addr) (rs:List Rl) (bs:List Nat) (m:Nat),vs=[.ref rl,.ref bl]/\SqL K H rl (rs.map fun r=>V.ref r.r)/\RulesAt H m rs/\SqL K H bl (bs.map vN)/\rs.length<=200/\bs.length<=200/\
 (∀H',Same H H'->L4 (rs.map Rl.d) bs rs.length=[]->Q .non H')/\
 ∀(u:Nat × Nat) (us:List (Nat × Nat)) (t:Addr) (H':Hp),Same H H'->L4 (rs.map Rl.d) bs rs.length=u :: us->H t=none->H' t=some (.tup [vN u.1,vN u.2])->Q (.ref t) H'
noncomputable abbrev SW:=Addr × (Nat × Nat)
noncomputable def StepsAt (H:Hp) (sw:List SW):Prop:=∀w∈sw,H w.1=some (.tup [vN w.2.1,vN w.2.2])
theorem StepsAt.same {H H':Hp} {sw:List SW} (h:StepsAt H sw) (e:Same H H'):StepsAt H' sw:=fun w hw=>e _ _ (h w hw)
theorem StepsAt.put {H:Hp} {sw:List SW} {q:Addr} {xs ys:List V} (h:StepsAt H sw) (hq:H q=some (.lst xs)):StepsAt (upd H q (.lst ys)) sw:=fun w hw=>by
 rw [C8 (Ht (h w hw) hq (by intro z; cases z))]
 exact h w hw
theorem StepsAt.snoc {H:Hp} {sw:List SW} {w:SW} (h:StepsAt H sw) (hw:H w.1=some (.tup [vN w.2.1,vN w.2.2])):StepsAt H (sw++[w]):=fun v hv=>by
 rcases Θa hv with hv | hv
 ·exact h v hv
 ·rw [Θs hv]; exact hw
theorem Xv (rs:List Rl):(rs.map Rl.d).length=rs.length:=Θl ..
noncomputable def Ah (K:Θf):Sp:=fun vs H Q _=>∃(m x:Nat) (rl:Addr) (rs:List Rl),vs=[vN m,.ref rl,vN x]/\m<=7/\x < 2 ^ m/\SqL K H rl (rs.map fun r=>V.ref r.r)/\RulesAt H m rs/\rs.length<=200/\
 ∀(t p q:Addr) (s:US) (sw:List SW) (H':Hp),Run (rs.map Rl.d) ⟨x,E9 m x,[]⟩ s->Same H H'->H t=none->H' t=some (.tup [vN s.fx,.ref p,.ref q])->H p=none->H' p=some (.lst (s.bs.map vN))->H q=none->H' q=some (.lst (sw.map fun w=>V.ref w.1))->StepsAt H' sw->sw.map (·.2)=s.st->sw.length<=300->p≠q->Q (.ref t) H'
theorem Cp {α:Type} [DecidableEq α] {f:α->PyData} (h:∀a b,same (f a) (f b)=decide (a=b)) (xs ys:List α):same (.list (xs.map f)) (.list (ys.map f))=decide (xs=ys):=by
 simp only [same]
 exact Dj h xs ys
theorem Z9 {α:Type} {f:α->PyData} (h:∀a b,SeqAt.noMix (f a) (f b)=true) (xs ys:List α):SeqAt.noMix (.list (xs.map f)) (.list (ys.map f))=true:=by
 simp only [SeqAt.noMix]
 exact Bc h xs ys
structure UCore (H:Hp) (m x:Nat) (rs:List Rl) (s:US) (p qa:Addr) (sw:List SW) (H':Hp):Prop where
 same:Same H H'
 hp0:H p=none
 hp:H' p=some (.lst (s.bs.map vN))
 npq:p≠qa
 hq0:H qa=none
 hq:H' qa=some (.lst (sw.map fun w=>V.ref w.1))
 st:StepsAt H' sw
 est:sw.map (·.2)=s.st
 good:Good m s.fx s.bs
 run:∀z,Run (rs.map Rl.d) s z->Run (rs.map Rl.d) ⟨x,E9 m x,[]⟩ z
 len:s.st.length + muS s.bs<=254
theorem UCore.mono {H:Hp} {m x:Nat} {rs:List Rl} {s:US} {p qa:Addr} {sw:List SW} {H' H'':Hp} (c:UCore H m x rs s p qa sw H') (e:Same H' H''):UCore H m x rs s p qa sw H'':=
 ⟨c.same.trans e,c.hp0,e _ _ c.hp,c.npq,c.hq0,e _ _ c.hq,c.st.same e,c.est,c.good,c.run,c.len⟩
theorem UCore.begin {H H':Hp} {m x:Nat} {rs:List Rl} {p qa:Addr} (m7:m<=7) (hx:x < 2 ^ m) (e:Same H H') (hp0:H p=none) (hp:H' p=some (.lst ((E9 m x).map vN))) (hq:H' qa=none):UCore H m x rs ⟨x,E9 m x,[]⟩ p qa [] (upd H' qa (.lst [])):=by
 have g:=Good.begin hx
 refine ⟨e.trans (Same.new hq),hp0,Same.new hq _ _ hp,C4 hp hq,e.none hq,A6,fun w h=>absurd h Zi_,rfl,g,fun z h=>h,?_⟩
 have e:=g.sum
 have p7:=Gj m7
 show 0 + muS (E9 m x)<=254
 unfold muS
 omega
theorem UCore.slen {H:Hp} {m x:Nat} {rs:List Rl} {s:US} {p qa:Addr} {sw:List SW} {H':Hp} (c:UCore H m x rs s p qa sw H'):sw.length<=254:=by
 have:=c.len
 have e:=congrArg List.length c.est
 rw [Θl] at e
 omega
theorem UCore.next {H:Hp} {m x:Nat} {rs:List Rl} {s:US} {p p' qa:Addr} {sw:List SW} {w:SW} {H1 H3:Hp} {u:Nat × Nat} {us:List (Nat × Nat)} (c:UCore H m x rs s p qa sw H1) (hu:L4 (rs.map Rl.d) s.bs rs.length=u :: us) (ew:w.2=(u.1,s.bs.getD u.2 0)) (hw:H1 w.1=some (.tup [vN w.2.1,vN w.2.2]))
  (s3:Same (upd H1 qa (.lst ((sw.map fun w=>V.ref w.1)++[V.ref w.1]))) H3) (hp':(upd H1 qa (.lst ((sw.map fun w=>V.ref w.1)++[V.ref w.1]))) p' = none) (hp3:H3 p' = some (.lst ((S6 (rs.map Rl.d) s u).bs.map vN))) :
  UCore H m x rs (S6 (rs.map Rl.d) s u) p' qa (sw++[w]) H3/\muS (S6 (rs.map Rl.d) s u).bs < muS s.bs:=by
 rw [<-Xv] at hu
 obtain ⟨g,mu⟩:=Im (m:=m) (rs:=rs.map Rl.d) (s:=s) (u:=u) c.good (by rw [hu]; exact Θc ..)
 have sH:Same H (upd H1 qa (.lst ((sw.map fun w=>V.ref w.1)++[V.ref w.1]))):=c.same.own c.hq0
 refine ⟨⟨sH.trans s3,sH.none hp',hp3,Ne.symm (C4 A6 hp'),c.hq0,?_,?_,?_,g,fun z h=>c.run z (Run.step hu h),?_⟩,mu⟩
 ·rw [s3 _ _ A6,Zw_]; rfl
 ·refine ((c.st.put c.hq).snoc ?_).same s3
  rw [C8 (Ht hw c.hq (by intro z; cases z))]
  exact hw
 ·rw [Zw_,c.est]
  show s.st++[w.2]=s.st++[(u.1,s.bs.getD u.2 0)]
  rw [ew]
 ·rw [Abk]
  have:=c.len
  omega
noncomputable def Aeb (H:Hp) (m x:Nat) (rl:Addr) (rs:List Rl) (n:Nat) (σ:St) (H':Hp):Prop:=
 ∃(s:US) (t p qa:Addr) (sw:List SW) (v:V),σ=[some (vN m),some (.ref rl),some (vN x),some (.ref t),some (.ref qa),some v]/\n=muS s.bs/\H' t=some (.tup [vN s.fx,.ref p])/\UCore H m x rs s p qa sw H'/\
  ((L4 (rs.map Rl.d) s.bs rs.length=[]/\v = .non)\/∃u us t5,L4 (rs.map Rl.d) s.bs rs.length=u :: us/\v = .ref t5/\H' t5=some (.tup [vN u.1,vN u.2]))
theorem Abr {rs:List Rl} {bs:List Nat} {u:Nat × Nat} {m:Nat} {H:Hp} (hu:u∈L4 (rs.map Rl.d) bs rs.length) (hR:RulesAt H m rs):∃r:Rl,rs[u.1]? = some r/\M8 (rs.map Rl.d) u.1=r.d/\u.2 < bs.length/\bs[u.2]? = some (bs.getD u.2 0)/\(K8 H r.r r.st r.x r.y/\r.x < 2 ^ m/\r.y < 2 ^ m):=by
 obtain ⟨h1,h2,_⟩:=T8 hu
 have e:rs[u.1]? = some rs[u.1]:=Θh h1
 exact ⟨rs[u.1],e,Qy e,h2,by rw [Zu_,Θh h2]; rfl,hR _ (List.getElem_mem h1)⟩
noncomputable def Fu (K:Θf):Sp:=fun vs H Q _=>∃(r l:Addr) (st:Bool) (x y:Nat) (bs:List Nat),vs=[.ref r,.ref l]/\K8 H r st x y/\SqL K H l (bs.map vN)/\bs.length<=200/\
 (bs.find? (usB (st,x,y))=none->Q .non H)/\∀b,bs.find? (usB (st,x,y))=some b->Q (vN b) H
noncomputable def Cq (K:Θf):Sp:=fun vs H Q _=>∃(m:Nat) (rl r:Addr) (rs:List Rl) (st:Bool) (x y:Nat),vs=[vN m,.ref rl,.ref r]/\m<=7/\x < 2 ^ m/\SqL K H rl (rs.map fun r=>V.ref r.r)/\RulesAt H m rs/\rs.length<=200/\K8 H r st x y/\
 (∀(s:US) (t q:Addr) (sw:List SW) (H':Hp),Run (rs.map Rl.d) ⟨x,E9 m x,[]⟩ s->s.bs.find? (usB (st,x,y))=none->Same H H'->H t=none->H' t=some (.tup [.str "yes",.ref q])->H q=none->H' q=some (.lst (sw.map fun w=>V.ref w.1))->StepsAt H' sw->sw.map (·.2)=s.st->sw.length<=300->Q (.ref t) H')/\
 ∀(s:US) (b:Nat) (t:Addr) (H':Hp),Run (rs.map Rl.d) ⟨x,E9 m x,[]⟩ s->s.bs.find? (usB (st,x,y))=some b->Same H H'->H t=none->H' t=some (.tup [.str "no",vN b])->Q (.ref t) H'
theorem Vm {f:Nat->Bool} {bs:List Nat} {i b:Nat} (h0:(bs.take i).find? f=none) (e:bs[i]? = some b) (h:f b=true):bs.find? f=some b:=by
 have hi:i < bs.length:=(Ze_.mp e).1
 have s:=Br hi
 have ebd:bs.getD i 0=b:=by rw [Zu_,e]; rfl
 rw [s,List.find?_append,h0,ebd,List.find?_cons,h]
 rfl
theorem Sn {f:Nat->Bool} {bs:List Nat} {i b:Nat} (h0:(bs.take i).find? f=none) (e:bs[i]? = some b) (h:f b≠true):(bs.take (i + 1)).find? f=none:=by
 rw [List.take_succ,e,List.find?_append,h0]
 show (none:Option Nat).or ([b].find? f)=none
 rw [List.find?_cons]
 cases z:f b with
 | true=>exact absurd z h
 | false=>rfl
section
variable {X:Cx} {K:Θf}
end
noncomputable def Ii (K:Θf):Sp:=fun vs H Q _=>∃(m x:Nat) (rl:Addr) (rs:List Rl),vs=[vN m,.ref rl,vN x]/\m<=7/\x < 2 ^ m/\SqL K H rl (rs.map fun r=>V.ref r.r)/\RulesAt H m rs/\rs.length<=200/\
 ∀(s:US) (H':Hp),Run (rs.map Rl.d) ⟨x,E9 m x,[]⟩ s->Same H H'->Q (vN s.fx) H'
end L2
namespace L2
theorem Run.apart0 {rs:List RD} {m x:Nat} {s:US} (hx:x < 2 ^ m) (h:Run rs ⟨x,E9 m x,[]⟩ s) {b:Nat} (hb:b∈s.bs):x&&&b=0:=by
 refine dis_iff.mpr fun k hk=>?_
 cases hbk:b.testBit k with
 | false=>rfl
 | true=>
  obtain ⟨c,hc,hck⟩:=h.sub ⟨b,hb,hbk⟩
  have:=(Good.begin hx).dis c hc
  rw [dis_iff.mp this k hk] at hck
  cases hck
noncomputable def Gm (m:Nat) (rs:List RD) (d:Nat):Prop:=1<=d/\d < 2 ^ m/\∀r∈rs,usB r d=false
noncomputable def Eg (m:Nat) (rs:List RD) (st:Bool) (x y:Nat):Prop:=∀d,Gm m rs d->usB (st,x,y) d=false
noncomputable def G4 (a k:Nat):Prop:=a.testBit k=true
theorem Gr {a:Nat} (h:a≠0):∃k,G4 a k:=by
 by_cases z:∃k,G4 a k
 ·exact z
 ·exfalso
  apply h
  refine Nat.eq_of_testBit_eq fun k=>?_
  rw [Nat.zero_testBit]
  cases e:a.testBit k with
  | false=>rfl
  | true=>exact absurd ⟨k,e⟩ z
theorem Eu (a b k:Nat):G4 (a&&&b) k↔G4 a k/\G4 b k:=by unfold G4; rw [Nat.testBit_and,Bool.and_eq_true]
theorem Dv {m a k:Nat} (ha:a < 2 ^ m) (h:G4 a k):k < m:=by
 apply Nat.lt_of_not_le
 intro le
 have:a.testBit k=false:=Nat.testBit_lt_two_pow (Zq_ ha (Nat.pow_le_pow_right (by decide) le))
 unfold G4 at h
 rw [this] at h; cases h
theorem and_ne {a b:Nat}:a&&&b≠0↔∃k,G4 a k/\G4 b k:=by
 constructor
 ·intro h
  obtain ⟨k,hk⟩:=Gr h
  exact ⟨k,(Eu a b k).mp hk⟩
 ·rintro ⟨k,h1,h2⟩ e
  have:=(Eu a b k).mpr ⟨h1,h2⟩
  unfold G4 at this
  rw [e,Nat.zero_testBit] at this
  cases this
theorem Us {y d:Nat}:y&&&d≠d↔∃k,G4 d k/\¬G4 y k:=by
 constructor
 ·intro h
  by_cases z:∃k,G4 d k/\¬G4 y k
  ·exact z
  ·exfalso
   apply h
   refine Nat.eq_of_testBit_eq fun k=>?_
   rw [Nat.testBit_and]
   cases hd:d.testBit k with
   | false=>rw [Bool.and_false]
   | true=>
    cases hy:y.testBit k with
    | true=>rfl
    | false=>exact absurd ⟨k,hd,fun q=>by unfold G4 at q; rw [hy] at q; cases q⟩ z
 ·rintro ⟨k,h1,h2⟩ e
  apply h2
  have:G4 (y&&&d) k:=by rw [e]; exact h1
  exact ((Eu y d k).mp this).1
theorem us_iff {st:Bool} {x y d:Nat}:usB (st,x,y) d=true↔(∀k,G4 d k->¬G4 x k)/\(∃k,G4 d k/\G4 y k)/\(st=true\/∃k,G4 d k/\¬G4 y k):=by
 show F9 st x y d=true↔_
 unfold F9
 rw [Bool.and_eq_true,Bool.and_eq_true,decide_eq_true_iff,Bool.or_eq_true]
 have e2:(!decide (y&&&d=0))=true↔∃k,G4 d k/\G4 y k:=by
  rw [Bool.not_eq_true',decide_eq_false_iff_not]
  exact and_ne.trans ⟨fun ⟨k,a,b⟩=>⟨k,b,a⟩,fun ⟨k,a,b⟩=>⟨k,b,a⟩⟩
 have e3:(!decide (y&&&d=d))=true↔∃k,G4 d k/\¬G4 y k:=by
  rw [Bool.not_eq_true',decide_eq_false_iff_not]
  exact Us
 have e1:x&&&d=0↔∀k,G4 d k->¬G4 x k:=by
  constructor
  ·intro h k h1 h2
   exact and_ne.mpr ⟨k,h2,h1⟩ h
  ·intro h
   by_cases z:x&&&d=0
   ·exact z
   ·obtain ⟨k,a,b⟩:=and_ne.mp z
    exact absurd a (h k b)
 rw [e1,e2,e3,and_assoc]
theorem Acs {st:Bool} {x y d:Nat}:usB (st,x,y) d=false↔((∀k,G4 d k->¬G4 x k)->(∃k,G4 d k/\G4 y k)->(st=true\/∃k,G4 d k/\¬G4 y k)->False):=by
 constructor
 ·intro h a b c
  have:=us_iff.mpr ⟨a,b,c⟩
  rw [h] at this; cases this
 ·intro h
  cases e:usB (st,x,y) d with
  | false=>rfl
  | true=>
   obtain ⟨a,b,c⟩:=us_iff.mp e
   exact (h a b c).elim
theorem Run.kept {rs:List RD} {m x:Nat} {s:US} (hx:x < 2 ^ m) (R:Run rs ⟨x,E9 m x,[]⟩ s) {b:Nat} (hb:b∈s.bs):Gm m rs b:=by
 obtain ⟨g,un⟩:=R.good (m:=m) (Good.begin hx)
 exact ⟨g.pos b hb,g.lt hb,fun r hr=>Zg un hr hb⟩
theorem Run.holds {rs:List RD} {m x d:Nat} {s:US} (hx:x < 2 ^ m) (R:Run rs ⟨x,E9 m x,[]⟩ s) (hd:Gm m rs d) (ha:∀k,G4 d k->¬G4 x k):∃b∈s.bs,Z0 d b:=by
 have h0:=hd.1
 refine R.keep (by omega) hd.2.2 (Sc hx hd.2.1 (by omega) ?_)
 by_cases z:d&&&x=0
 ·exact z
 ·obtain ⟨k,a,b⟩:=and_ne.mp z
  exact absurd b (ha k a)
theorem Da {rs:List RD} {m x y:Nat} {st:Bool} {s:US} (hx:x < 2 ^ m) (R:Run rs ⟨x,E9 m x,[]⟩ s):s.bs.find? (usB (st,x,y))=none↔Eg m rs st x y:=by
 rw [List.find?_eq_none]
 constructor
 ·intro h d hd
  rw [Acs]
  intro a ⟨k,b1,b2⟩ c
  obtain ⟨b,hb,hs⟩:=R.holds hx hd a
  apply h b hb
  rw [us_iff]
  refine ⟨fun k h1 h2=>?_,⟨k,hs k b1,b2⟩,?_⟩
  ·have:=dis_iff.mp (R.apart0 hx hb) k h2
   unfold G4 at h1
   rw [this] at h1; cases h1
  ·rcases c with c | ⟨j,c1,c2⟩
   ·exact .inl c
   ·exact .inr ⟨j,hs j c1,c2⟩
 ·intro h b hb
  rw [h b (R.kept hx hb)]
  exact Zf_
end L2
namespace L2
section
variable {m:Nat} {rs:List RD} {x y z v:Nat}
end
open PySem PySem.Spec PyProof.Rows
theorem RulesAt.put {H:Hp} {m:Nat} {rs:List Rl} {q:Addr} {xs ys:List V} (h:RulesAt H m rs) (hq:H q=some (.lst xs)):RulesAt (upd H q (.lst ys)) m rs:=fun r hr=>by
 refine ⟨?_,(h r hr).2⟩
 have h1:=(h r hr).1
 unfold K8 at h1 ⊢
 rw [C8 (Ht h1 hq (by intro z; cases z))]
 exact h1
end L2
namespace L2
noncomputable def Py (x d:Nat):Prop:=∀k,G4 d k->¬G4 x k
theorem Ut {x b:Nat} (h:x&&&b=0):Py x b:=fun k h1 h2=>by
 have:=dis_iff.mp h k h2
 unfold G4 at h1
 rw [this] at h1; cases h1
structure Blocks (m:Nat) (rs:List RD) (x fx:Nat) (bs:List Nat):Prop where
 good:Good m fx bs
 kept:∀b∈bs,Gm m rs b
 apart:∀b∈bs,Py x b
 holds:∀d,Gm m rs d->Py x d->∃b∈bs,Z0 d b
theorem Run.blocks {rs:List RD} {m x:Nat} {s:US} (hx:x < 2 ^ m) (R:Run rs ⟨x,E9 m x,[]⟩ s):Blocks m rs x s.fx s.bs:=
 ⟨(R.good (m:=m) (Good.begin hx)).1,fun b hb=>R.kept hx hb,fun b hb=>Ut (R.apart0 hx hb),fun d hd ha=>R.holds hx hd ha⟩
end L2
namespace L2
open PySem PySem.Spec PyProof.Rows
noncomputable def ynS (b:Bool):Str:=if b=true then "yes" else "no"
theorem Ad6 (b:Bool):decide (V.str (ynS b)=V.str "yes")=b:=by
 cases b with
 | true=>exact Zr_ rfl
 | false=>exact decide_eq_false (by intro z; injection z with z; revert z; decide)
noncomputable def Yv (K:Θf):Sp:=fun vs H Q _=>∃(m:Nat) (rl r:Addr) (rs:List Rl) (st:Bool) (x y:Nat),vs=[vN m,.ref rl,.ref r]/\m<=7/\x < 2 ^ m/\SqL K H rl (rs.map fun r=>V.ref r.r)/\RulesAt H m rs/\rs.length<=200/\K8 H r st x y/\
 ∀(b:Bool) (t:Addr) (v:V) (H':Hp),(b=true↔Eg m (rs.map Rl.d) st x y)->Same H H'->H' t=some (.tup [.str (ynS b),v])->Q (.ref t) H'
theorem Vo {K:Θf} (vs:List V) (H:Hp) (Q:VK) (E:XK) (h:Yv K vs H Q E):Cq K vs H Q E:=by
 obtain ⟨m,rl,r,rs,st,x,y,rfl,m7,hx,hrl,hRs,lr,hR,q⟩:=h
 refine ⟨m,rl,r,rs,st,x,y,rfl,m7,hx,hrl,hRs,lr,hR,fun s t qa sw H1 R hn s1 ht ht1 hq hq1 st1 e1 l1=>?_,fun s b t H1 R hb s1 ht ht1=>?_⟩
 ·exact q true t _ H1 ⟨fun _=>(Da hx R).mp hn,fun _=>rfl⟩ s1 ht1
 ·refine q false t _ H1 ⟨fun z=>absurd z Zf_,fun z=>?_⟩ s1 ht1
  rw [(Da hx R).mpr z] at hb; cases hb
end L2
namespace L2
noncomputable def P8 (x c:Nat):Nat:=x - (x&&&2 ^ c)
noncomputable def Ic (C:Nat->List Nat) (r:RD):List RD:=(C (r.2.2 - (r.2.2&&&r.2.1))).map fun c=>(true,r.2.1,2 ^ c)
noncomputable def Bo (C:Nat->List Nat) (rs:List RD):List RD:=(rs.filter fun r=>r.1).flatMap (Ic C)++rs.filter fun r=>!r.1
open PySem PySem.Spec PyProof.Rows
theorem Sj:∀a,a < 128->(E1 a).length<=7:=by decide +kernel
theorem Vd:∀a,a < 128->∀k,k < 8->(k∈E1 a↔a.testBit k=true):=by decide +kernel
theorem R1 {a:Nat} (ha:a < 128) (k:Nat):k∈E1 a↔G4 a k:=by
 by_cases hk:k < 8
 ·exact Vd a ha k hk
 ·constructor
  ·intro h
   have h1:=List.mem_range.mp (List.mem_filter.mp h).1
   have h2:Ej a<=7:=by
    unfold Ej Builtin.Int.intBits
    split
    ·omega
    ·rename_i z
     have h0:a≠0:=by intro e; subst e; exact z rfl
     have:a.log2 < 7:=(Nat.log2_lt h0).mpr ha
     show (a:Int).natAbs.log2 + 1<=7
     rw [Int.natAbs_natCast]
     omega
   omega
  ·intro h
   have:=Dv (m:=7) ha h
   omega
noncomputable def Pi (K:Θf):Sp:=fun vs H Q _=>∃(m:Nat) (rl r:Addr) (rs:List Rl) (st:Bool) (x y:Nat),vs=[vN m,.ref rl,.ref r]/\m<=7/\x < 2 ^ m/\SqL K H rl (rs.map fun r=>V.ref r.r)/\RulesAt H m rs/\rs.length<=200/\K8 H r st x y/\
 ∀(b:Bool) (H':Hp),(b=true↔Eg m (rs.map Rl.d) st x y)->Same H H'->Q (.bl b) H'
noncomputable def Mw (K:Θf):Sp:=fun vs H Q _=>∃(m:Nat) (rl:Addr) (rs:List Rl),vs=[.ref rl]/\m<=7/\SqL K H rl (rs.map fun r=>V.ref r.r)/\RulesAt H m rs/\rs.length<=20/\
 ∀(ss:List Rl) (p:Addr) (H':Hp),ss.map Rl.d=Bo E1 (rs.map Rl.d)->RulesAt H' m ss->ss.length<=160->Same H H'->H p=none->H' p=some (.lst (ss.map fun r=>V.ref r.r))->Q (.ref p) H'
end L2
namespace L2
open PySem PySem.Spec PyProof.Rows
section
variable {prog:Program} {w:World} {A:Around} {E:Value->Shared->Prop} {s:Shared} {a₀:Array Keyed} {κ:KeyKind}
end
section
variable {X:Cx} {K:Θf}
end
section
variable {X:Cx} {K:Θf}
end
end L2
namespace L2
open PySem PySem.Spec PyProof.Rows
open Classical in
noncomputable def Bs (m i:Nat) (ls:List RD) (c:Nat):List RD:=if Eg m ls true (P8 (M8 ls i).2.1 c) (M8 ls i).2.2 then ls.set i (true,P8 (M8 ls i).2.1 c,(M8 ls i).2.2) else ls
noncomputable def S0 (m i:Nat) (ls:List RD) (cs:List Nat):List RD:=cs.foldl (Bs m i) ls
noncomputable def Q3 (m:Nat) (rs:List RD) (n:Nat):List RD:=(List.range n).foldl (fun l i=>if (M8 rs i).1=true then S0 m i l (E1 (M8 rs i).2.1) else l) rs
open Classical in
noncomputable def Q0 (m:Nat):List RD->List RD->List RD
 | kept,[]=>kept
 | kept,r :: rest=>if Eg m (kept++rest) r.1 r.2.1 r.2.2 then Q0 m kept rest else Q0 m (kept++[r]) rest
noncomputable def Nj (m:Nat) (rs:List RD):List RD:=Q0 m [] (Q3 m (Bo E1 rs) (Bo E1 rs).length)
theorem Uj {m i c:Nat} {ls:List RD} (h:Eg m ls true (P8 (M8 ls i).2.1 c) (M8 ls i).2.2):Bs m i ls c=ls.set i (true,P8 (M8 ls i).2.1 c,(M8 ls i).2.2):=by unfold Bs; rw [if_pos h]
theorem Za {m i c:Nat} {ls:List RD} (h:¬Eg m ls true (P8 (M8 ls i).2.1 c) (M8 ls i).2.2):Bs m i ls c=ls:=by unfold Bs; rw [if_neg h]
theorem Ay (m i:Nat) (ls:List RD) (cs:List Nat) (c:Nat):S0 m i ls (cs++[c])=Bs m i (S0 m i ls cs) c:=by unfold S0; rw [List.foldl_append]; rfl
theorem U7 (m:Nat) (rs:List RD) (n:Nat):Q3 m rs (n + 1)=if (M8 rs n).1=true then S0 m n (Q3 m rs n) (E1 (M8 rs n).2.1) else Q3 m rs n:=by
 unfold Q3
 rw [List.range_succ,List.foldl_append]; rfl
theorem Sx {m:Nat} {k rest:List RD} {r:RD} (h:Eg m (k++rest) r.1 r.2.1 r.2.2):Q0 m k (r :: rest)=Q0 m k rest:=by rw [Q0,if_pos h]
theorem Wo {m:Nat} {k rest:List RD} {r:RD} (h:¬Eg m (k++rest) r.1 r.2.1 r.2.2):Q0 m k (r :: rest)=Q0 m (k++[r]) rest:=by rw [Q0,if_neg h]
theorem Qx {rs:List RD} {i:Nat} {r:RD} (h:rs[i]? = some r):M8 rs i=r:=by unfold M8; rw [List.getD_eq_getElem?_getD,h]; rfl
theorem Ui {m i j:Nat} {ls:List RD} {c:Nat} (h:i≠j):(Bs m i ls c)[j]? = ls[j]?:=by
 unfold Bs; split
 ·rw [List.getElem?_set_ne h]
 ·rfl
theorem Dc {m i j:Nat} (h:i≠j):∀(cs:List Nat) (ls:List RD),(S0 m i ls cs)[j]? = ls[j]?
 | [],ls=>rfl
 | c :: cs,ls=>by show (S0 m i (Bs m i ls c) cs)[j]? = _; rw [Dc h cs,Ui h]
theorem W1 (m:Nat) (rs:List RD):∀n j,n<=j->(Q3 m rs n)[j]? = rs[j]?
 | 0,j,_=>rfl
 | n + 1,j,h=>by
  rw [U7]; split
  ·rw [Dc (by omega),W1 m rs n j (by omega)]
  ·exact W1 m rs n j (by omega)
end L2
namespace L2
open PySem PySem.Spec PyProof.Rows
section
variable {X:Cx} {pins:List (Addr × Obj)} {σ:St} {H:Hp} {s:Shared}
end
structure LCoreX (H:Hp) (m n:Nat) (ls:List Rl) (p:Addr) (H':Hp):Prop where
 same:Same H H'
 hp0:H p=none
 hp:H' p=some (.lst (ls.map fun r=>V.ref r.r))
 at_:RulesAt H' m ls
 len:ls.length=n
theorem LCoreX.mono {H H' H'':Hp} {m n:Nat} {ls:List Rl} {p:Addr} (c:LCoreX H m n ls p H') (e:Same H' H''):LCoreX H m n ls p H'':=
 ⟨c.same.trans e,c.hp0,e _ _ c.hp,c.at_.same e,c.len⟩
theorem LCoreX.put {H H':Hp} {m n i:Nat} {ls:List Rl} {p sp:Addr} {st:Bool} {x y:Nat} (c:LCoreX H m n ls p H') (hsp:K8 H' sp st x y) (hx:x < 2 ^ m) (hy:y < 2 ^ m):LCoreX H m n (ls.set i ⟨sp,st,x,y⟩) p (upd H' p (.lst ((ls.set i ⟨sp,st,x,y⟩).map fun r=>V.ref r.r))):=by
 refine ⟨c.same.own c.hp0,c.hp0,A6,fun r hr=>?_,by rw [List.length_set]; exact c.len⟩
 rcases List.mem_or_eq_of_mem_set hr with h | h
 ·exact (c.at_.put c.hp) r h
 ·rw [h]
  refine ⟨?_,hx,hy⟩
  show upd _ _ _ sp=_
  rw [C8 (Ht hsp c.hp (by intro z; cases z))]
  exact hsp
noncomputable def Ms (K:Θf):Sp:=fun vs H Q _=>∃(m:Nat) (rl:Addr) (rs:List Rl),vs=[vN m,.ref rl]/\m<=7/\SqL K H rl (rs.map fun r=>V.ref r.r)/\RulesAt H m rs/\rs.length<=160/\
 ∀(ls:List Rl) (p:Addr) (H':Hp),ls.map Rl.d=Q3 m (rs.map Rl.d) rs.length->RulesAt H' m ls->ls.length<=160->Same H H'->H p=none->H' p=some (.lst (ls.map fun r=>V.ref r.r))->Q (.ref p) H'
noncomputable def Rn (K:Θf):Sp:=fun vs H Q _=>∃(m:Nat) (rl:Addr) (rs:List Rl),vs=[vN m,.ref rl]/\m<=7/\SqL K H rl (rs.map fun r=>V.ref r.r)/\RulesAt H m rs/\rs.length<=160/\
 ∀(cs:List Rl) (p:Addr) (H':Hp),cs.map Rl.d=Q0 m [] (rs.map Rl.d)->RulesAt H' m cs->cs.length<=160->Same H H'->H p=none->H' p=some (.lst (cs.map fun r=>V.ref r.r))->Q (.ref p) H'
noncomputable def Mp (K:Θf):Sp:=fun vs H Q _=>∃(m:Nat) (rl:Addr) (rs:List Rl),vs=[vN m,.ref rl]/\m<=7/\SqL K H rl (rs.map fun r=>V.ref r.r)/\RulesAt H m rs/\rs.length<=20/\
 ∀(ks:List Rl) (p:Addr) (H':Hp),ks.map Rl.d=Nj m (rs.map Rl.d)->RulesAt H' m ks->ks.length<=160->Same H H'->H p=none->H' p=some (.lst (ks.map fun r=>V.ref r.r))->Q (.ref p) H'
theorem Ep {α:Type} {l:List α} {i:Nat} (h:i < l.length):(l.eraseIdx i).take i=l.take i/\(l.eraseIdx i).drop i=l.drop (i + 1):=by
 have e:(l.take i).length=i:=by rw [ZB]; omega
 rw [List.eraseIdx_eq_take_drop_succ]
 exact ⟨List.take_left' e,List.drop_left' e⟩
theorem Ly {m i:Nat} {ls:List RD} {r:RD} (h:ls[i]? = some r):(Eg m (ls.eraseIdx i) r.1 r.2.1 r.2.2->Q0 m (ls.take i) (ls.drop i)=Q0 m ((ls.eraseIdx i).take i) ((ls.eraseIdx i).drop i))/\(¬Eg m (ls.eraseIdx i) r.1 r.2.1 r.2.2->Q0 m (ls.take i) (ls.drop i)=Q0 m (ls.take (i + 1)) (ls.drop (i + 1))):=by
 obtain ⟨hi,e⟩:=Ze_.mp h
 have ed:ls.drop i=r :: ls.drop (i + 1):=by rw [List.drop_eq_getElem_cons hi,e]
 have et:ls.take (i + 1)=ls.take i++[r]:=by rw [List.take_succ,h]; rfl
 constructor
 ·intro f
  rw [(Ep hi).1,(Ep hi).2,ed]
  rw [List.eraseIdx_eq_take_drop_succ] at f
  exact Sx f
 ·intro f
  rw [ed,et]
  rw [List.eraseIdx_eq_take_drop_succ] at f
  exact Wo f
section
variable {K:Θf} {H H1 H2:Hp} {st g p:Addr} {ns:List Int} {m k k':Nat} {rs rs':List Rl} {o:HO} {ys:List V}
end
theorem Zt {a b:Nat} (h:∀k,G4 a k↔G4 b k):a=b:=Nat.eq_of_testBit_eq fun k=>by
 rw [Bool.eq_iff_iff]; exact h k
theorem Vs {P:Program} {w:World} {H:Hp} {h:Heap} {a:Addr} {o:HO} (x:ObjOk P w H h a o):∃ob,h.get? a=some ob:=by
 cases o with
 | lst xs=>obtain ⟨_,_,_,_,e⟩:=x; exact ⟨_,e⟩
 | tup xs=>obtain ⟨_,_,_,ob,e,_⟩:=x; exact ⟨_,e⟩
 | dK kvs=>obtain ⟨_,_,_,_,o,_,_,e,_⟩:=x; exact ⟨_,e⟩
 | dT kvs=>obtain ⟨_,_,_,_,o,_,_,e,_⟩:=x; exact ⟨_,e⟩
 | set S n=>obtain ⟨o,_,_,_,e,_⟩:=x; exact ⟨_,e⟩
 | ins C dx fs=>obtain ⟨_,_,_,e,_⟩:=x; exact ⟨_,e⟩
 | own y=>exact x
 | xd fs=>obtain ⟨_,⟨_,_,_,e,_⟩,_⟩:=x; exact ⟨_,e⟩
 | rng lo hi=>obtain ⟨_,_,_,e⟩:=x; exact ⟨_,e⟩
 | frz ob u=>exact ⟨_,x.1⟩
 | tbl ps=>exact ⟨_,x⟩
 | met f y=>exact ⟨_,x⟩
 | ext φ=>exact x.2.1
structure Fly (P:Program) (w:World) (outer:List Env) (H H':Hp) (s s':Shared) (ea C:Addr) (B:Heap):Prop where
 os:s'.os=s.os
 bare:AllBare s'.gens
 un:Un (frs outer) [] H H' s.heap s'.heap
 hok:HOk P w H' B
 inB:∀b o,s.heap.get? b=some o->H b=none->b∉frs outer->B.get? b=some o
 ex:∀b o,s.heap.get? b=some o->b∉frs outer->∃o',B.get? b=some o'
 fly:∃a0,Heap.FlyingW B outer ea (.ref C) a0 s'.heap
theorem Fly.fresh {P:Program} {w:World} {outer:List Env} {H H':Hp} {s s':Shared} {ea C:Addr} {B:Heap} (F:Fly P w outer H H' s s' ea C B):H' ea=none:=by
 obtain ⟨a0,f⟩:=F.fly
 cases q:H' ea with
 | none=>rfl
 | some o=>
  obtain ⟨ob,e⟩:=Vs (F.hok ea o q)
  rw [f.2.1] at e
  cases e
noncomputable def CX1 (P:Program) (w:World):CXT:=fun outer H s E e s'=>∃ea C B H',e = .ref ea/\Fly P w outer H H' s s' ea C B/\E (.ref C) none H'
section
variable {P:Program} {w:World} {K:Θf} {mg:Str->Option Value} {base:Heap} {N:List Str} {qual:Str} {scope:Scope} {f:Addr} {cd:Value} {A:Around} {outer:List Env} {s₀:Shared} {H₀:Hp} {E E':XK}
theorem W0 {env:Env} {L:Addr} {l:List Env} (h:env.frame=some L):frs (env :: l)=L :: frs l:=by
 unfold frs
 rw [List.filterMap_cons,h]
theorem N8 {pins:List (Addr × Obj)} {σ:St} {H:Hp} {s:Shared} {h':Heap} {e C:Addr} {vs:List Value} (I:Inv (T0 (CX1 P w) P w K mg base N qual scope f cd A outer s₀ H₀ E) pins σ H s)
  (hx:Heap.MadeExcOf s.heap h' e (.ref C) vs) (hE:E (.ref C) none H):(T0 (CX1 P w) P w K mg base N qual scope f cd A outer s₀ H₀ E).xe (.ref e) { s with heap:=h' }:=by
 have hf:(envOfC qual scope s₀.heap.objs.size f cd).frame=some s₀.heap.objs.size:=rfl
 have hfr:(A.deeper (envOfC qual scope s₀.heap.objs.size f cd)).frames=some (envOfC qual scope s₀.heap.objs.size f cd :: outer):=I.ok.frames
 have hst:s.heap.FunFrames base (envOfC qual scope s₀.heap.objs.size f cd :: outer):=I.stack
 have hl:=PySem.W.funFrames_hide (as:=frs (envOfC qual scope s₀.heap.objs.size f cd :: outer)) hst fun env he b hb=>List.mem_filterMap.mpr ⟨env,he,hb⟩
 have nin:∀b o,s₀.heap.get? b=some o->b∉frs outer->b∉frs (envOfC qual scope s₀.heap.objs.size f cd :: outer):=fun b o q hb hm=>by
  rw [W0 hf] at hm
  rcases Zg_.mp hm with z | z
  ·exact absurd (Zn_ q) (by rw [z]; exact Nat.lt_irrefl _)
  ·exact hb z
 refine wpAny_leaves_madeW (s:={ s with heap:=h' }) hfr hf (fun b o q=>PySem.W.of_hideAll _ q) hl hx fun h2 t x1 x2 x3 x4=>?_
 have base0:Un (frs outer) [] H₀ H s₀.heap s.heap:=I.base
 have slot:∀b o,s₀.heap.get? b=some o->H₀ b=none->b∈frs outer->∃sl,h2.get? b=some { o with slots:=sl }:=fun b o q n hb=>by
  obtain ⟨sl,e1⟩:=base0.slot b o q n hb (by simp)
  obtain ⟨_,o',e2,hd⟩:=I.ok.funs.mem hb
  have q':s₀.heap.get? b=some o':=e2
  rw [q] at q'
  cases q'
  obtain ⟨sl',e3⟩:=x4 b _ (hx.keeps _ _ e1) hd
  exact ⟨sl',e3⟩
 refine ⟨e,C,_,H,rfl,⟨I.os,I.bare,⟨fun b o q n hb hx'=>?_,fun b o q n hb _=>slot b o q n hb,base0.free,fun b o q hx'=>?_,base0.tups,base0.frzs,base0.tbls⟩,fun a o q=>?_,fun b o q n hb=>?_,fun b o q hb=>?_,⟨_,x1⟩⟩,hE⟩
 ·exact x1.1 b o (PySem.W.hideAll_get _ (base0.keep b o q n hb hx') (nin b o q hb))
 ·by_cases hb:b∈frs outer
  ·obtain ⟨sl,e1⟩:=slot b o q (I.ok.frf b hb) hb
   exact ⟨_,e1⟩
  ·obtain ⟨o',e1⟩:=base0.there b o q hx'
   exact ⟨o',x1.1 _ _ (PySem.W.hideAll_get _ e1 (nin b o q hb))⟩
 ·have nfr:∀b u,H b=some u->b∉frs (envOfC qual scope s₀.heap.objs.size f cd :: outer):=fun b u z hm=>by
   have:=I.stkFree b hm
   rw [z] at this
   cases this
  refine (I.hok a o q).stay (fun b u hb z=>PySem.W.hideAll_get _ z ?_) (fun _ z=>z) fun _ _ z=>z
  rcases hb with rfl | hb
  ·exact nfr _ _ q
  ·exact nfr _ _ hb
 ·exact PySem.W.hideAll_get _ (base0.keep b o q n hb (by simp)) (nin b o q hb)
 ·obtain ⟨o',e1⟩:=base0.there b o q (by simp)
  exact ⟨o',PySem.W.hideAll_get _ e1 (nin b o q hb)⟩
theorem Fly.over {X:Cx} {pins:List (Addr × Obj)} {σ:St} {H H':Hp} {s s':Shared} {ea C:Addr} {B h2:Heap} (I:Inv X pins σ H s) (F:Fly X.prog X.w X.stack H H' s s' ea C B) (k1:∀b o,B.get? b=some o->h2.get? b=some o) (k2:s'.heap.UpToSlots h2) :
  Un (frs X.stack) [] H H' s.heap h2:=by
 have slot:∀b o,s.heap.get? b=some o->H b=none->b∈frs X.stack->∃sl,h2.get? b=some { o with slots:=sl }:=fun b o q n hb=>by
  obtain ⟨sl,e1⟩:=F.un.slot b o q n hb (by simp)
  obtain ⟨_,o',e2,hd⟩:=I.stack.mem hb
  rw [q] at e2
  cases e2
  obtain ⟨sl',e3⟩:=k2 b _ e1 hd
  exact ⟨sl',e3⟩
 refine ⟨fun b o q n hb _=>k1 _ _ (F.inB b o q n hb),fun b o q n hb _=>slot b o q n hb,F.un.free,fun b o q _=>?_,F.un.tups,F.un.frzs,F.un.tbls⟩
 by_cases hb:b∈frs X.stack
 ·obtain ⟨sl,e1⟩:=slot b o q (I.stkFree b hb) hb
  exact ⟨_,e1⟩
 ·obtain ⟨o',e1⟩:=F.ex b o q hb
  exact ⟨o',k1 _ _ e1⟩
theorem Hu (hEE:∀c H,E c none H->E' c none H):U2 (CX1 P w) (T0 (CX1 P w) P w K mg base N qual scope f cd A outer s₀ H₀ E') E:=by
 rintro pins σ H s e s' I ⟨ea,C,B,H',rfl,F,hE⟩
 have hf:(envOfC qual scope s₀.heap.objs.size f cd).frame=some s₀.heap.objs.size:=rfl
 have hfr:(A.deeper (envOfC qual scope s₀.heap.objs.size f cd)).frames=some (envOfC qual scope s₀.heap.objs.size f cd :: outer):=I.ok.frames
 obtain ⟨a0,fl⟩:=F.fly
 refine wpAny_leaves_onW hfr hf fl fun h2 x1 x4=>?_
 have u:=F.over (h2:=h2) I x1.1 x4
 have J:Inv (T0 (CX1 P w) P w K mg base N qual scope f cd A outer s₀ H₀ E') pins σ H' { s' with heap:=h2 }:=I.call' (ch:=[]) F.os u (F.hok.kept x1.1) F.bare fun b hb=>absurd hb (by simp)
 have base0:Un (frs outer) [] H₀ H s₀.heap s.heap:=I.base
 have nin:∀b o,s₀.heap.get? b=some o->b∉frs outer->b∉frs (envOfC qual scope s₀.heap.objs.size f cd :: outer):=fun b o q hb hm=>by
  rw [W0 hf] at hm
  rcases Zg_.mp hm with z | z
  ·exact absurd (Zn_ q) (by rw [z]; exact Nat.lt_irrefl _)
  ·exact hb z
 refine ⟨ea,C,B,H',rfl,⟨F.os.trans I.os,F.bare,J.base,F.hok,fun b o q n hb=>?_,fun b o q hb=>?_,⟨a0,x1⟩⟩,hEE _ _ hE⟩
 ·exact F.inB b o (base0.keep b o q n hb (by simp)) (base0.free b o q n (by simp)) (nin b o q hb)
 ·obtain ⟨o',e1⟩:=base0.there b o q (by simp)
  exact F.ex b o' e1 (nin b o q hb)
end
theorem Ks {K:Θf} {mg:Str->Option Value} {base:Heap} (M:Mod K mg base) (p:Program):∃loose mb,PySem.W.TopRead p loose mg mb base:=by
 obtain ⟨mb,hb,hbb⟩:=M.blt
 obtain ⟨o,es,ep,ho,hd,hk,hf⟩:=id M.glob
 refine ⟨es.toList.filterMap fun e=>match e.key with | .str x _=>some x | _=>none,mb,⟨M.glob,hb,M.nolimit,hbb,fun x _ hx _ _ _=>?_⟩⟩
 rw [<-hf x]
 cases q:nsFind es x with
 | none=>rfl
 | some v=>
  exfalso
  unfold nsFind findBy at q
  obtain ⟨e,he,_⟩:=Option.map_eq_some_iff.mp q
  have h1:=Array.mem_of_find?_eq_some he
  have h2:=Array.find?_some he
  obtain ⟨n,t,ek⟩:=hk e h1
  rw [ek] at h2
  have h3:x=n:=by
   simp only [Value.isStr] at h2
   exact (beq_iff_eq.mp h2).symm
  refine hx (List.mem_filterMap.mpr ⟨e,Array.mem_toList_iff.mpr h1,?_⟩)
  rw [ek,h3]
noncomputable def VEB:List Value:=[.type "ValueError",.type "Exception",.type "BaseException",.type "object"]
structure Exc (K:Θf) (x:Str) (C:Addr):Prop where
 ns:PySem.W.nsIn K mainGlobals x=some (some (.ref C))
 ex:PySem.W.excIn K C [.type "ValueError",.type "Exception",.type "BaseException",.type "object"] "ValueError.__new__" = true
section
variable {X:Cx} {x:Str} {C:Addr} {np cpos pos:Pos} {e:Expr} {es:List Expr} {t:TA} {EX:XK}
noncomputable def Ad1 (EX:XK) (C:Addr) (t:TA):TS:=fun _ σ H=>t σ H fun vs H1=>vs.length<=sizeLine/\EX (.ref C) none H1
theorem P6 (O:Exc X.K x C) (hg:Gl X x) (hc:X.calm=true) (ha:PA X (e :: es) t)
  (hout:∀(pins:List (Addr × Obj)) (σ:St) (H:Hp) (s:Shared) (h':Heap) (ea:Addr) (vs:List Value),Inv X pins σ H s->Heap.MadeExcOf s.heap h' ea (.ref C) vs->EX (.ref C) none H->X.xe (.ref ea) { s with heap:=h' })
  (hdb:(x == ("__debug__":Str))=false:=by decide) (he:starEach (e :: es) X.env=(false,eval e X.env) :: starEach es X.env:=by rfl) (hpl:(backTo cpos (starEach es X.env)).any (·.1)=false:=by rfl) :
  PS X (.Raise (some (.Call (.Name x np) (e :: es) [] cpos)) none pos) (Ad1 EX C t):=by
 intro pins s σ H D I h
 obtain ⟨loose,mb,T⟩:=Ks I.ok.mod X.prog
 have W:=PySem.W.own_of_in I.ok.mod.kin T O.ns O.ex
 obtain ⟨tl,N,nm,q,bs,hdct,sn,sub,ab,col,dd,k0,k1,k2,k3,k5,mN,hC,hN,hni,TL⟩:=W.obj
 refine wpAny_Raise_call_subT (nm:=nm) (q:=q) (N:=N) (bs:=bs) (hdct:=hdct) (sn:=sn) (sub:=sub) (ab:=ab) (col:=col) (dd:=dd) (k0:=k0) (k1:=k1) (k2:=k2) (k3:=k3) (k5:=k5) PySem.F.excBase_ValueError (mN:=mN) (TL.hasType PySem.F.excBase_ValueError.hasBase) (I.ok.hd hc) (by rw [he]; show (false || (backTo cpos (starEach es X.env)).any (·.1))=false; rw [hpl]; rfl) hni (R9 I hg W.bound ⟨rfl,?_⟩ hdb)
 have h1:=ha cpos pins s σ H _ I h
 rw [he] at h1 ⊢
 refine Calls.evalArgs_plain (thn h1 fun us s1 ⟨vs,H1,I1,r,hz,q⟩=>⟨rfl,by rw [<-r.length]; exact hz,I1.bk _ _ hC,hN.keeps I1.bk,TL.keeps I1.bk,fun h' ea hm=>hout pins σ H1 s1 h' ea us I1 hm q⟩)
end
section
variable {X:Cx} {a b:Str} {e:Expr} {te:TE} {j1 j2:Nat} {p1 p2 p3 pos:Pos}
noncomputable def tFs (te:TE):TE:=fun σ H Q=>te σ H fun v H1=>∃i:Int,v = .int i/\i.natAbs.log2 < 1920/\∀x,Q (.str x) H1
theorem Ach {out:Str} {i:Int} (h1:out.length<=1000) (h2:i.natAbs.log2 < 1920):(out++Str.ofString (toString i)).length<=3000:=by
 rw [strLen_append,PySem.ofString_length]
 have:=int_text_length_le (k:=1920) (by decide) h2
 omega
theorem V2 {n:Nat} (h:n<=5000):n<=sizeLine:=Zo_ h (by decide)
theorem Sl (a:Str) (h:a.length<=1000):(Str.empty++a).length<=1000:=by
 rw [strLen_append]
 show 0 + a.length<=1000
 omega
theorem Xm (he:PE X e te) (h1:a.length<=1000:=by decide) (h2:b.length<=1000:=by decide):PE X (.JoinedStr [.Constant (.str a) j1 p1,.FormattedValue e (-1) none p2,.Constant (.str b) j2 p3] pos) (tFs te):=by
 intro pins s σ H Q I h
 have hz:=Sl a h1
 refine JoinedStr_many (joinParts_cons (Calls.Constant_str ⟨V2 (by omega),?_⟩))
 refine joinParts_cons (FormattedValue_plain (thn (he pins _ σ H _ (I.tok _) h) fun u s1 ⟨v,H1,I1,r,i,ev,hd,q⟩=>?_))
 subst ev
 obtain ⟨tk,rfl⟩:=r
 have hz2:=Ach hz hd
 refine formatField_int_small hd ⟨V2 (by omega),?_⟩
 have hz3:(Str.empty++a++Str.ofString (toString i)++b).length<=4000:=by
  rw [strLen_append]
  omega
 exact joinParts_cons (Calls.Constant_str ⟨V2 (by omega),joinParts_nil ⟨.str _,H1,I1.tok _,⟨_,rfl⟩,q _⟩ (V2 (by omega))⟩)
end
theorem Fun.ok1 {P:Program} {w:World} {K:Θf} {mg:Str->Option Value} {base:Heap} {x qual:Str} {st:Stmt} {f:Addr} {fd:FuncData} {N ps:List Str} {k:Nat} {sp:Sp} (F:Fun K x qual st f fd) (S:FnScope N ps (B6 st)) (len:∀vs H Q E,sp vs H Q E->vs.length=ps.length)
  (hbody:∀(cdv:Value) (A:Around) (outer:List Env) (s:Shared) (H:Hp) (vs:List V) (Q:VK) (E:XK),Room k (A.deeper (envOfC qual (B6 st) s.heap.objs.size f cdv))->sp vs H Q E->
   ∃t,PSs (T0 (CX1 P w) P w K mg base N qual (B6 st) f cdv A outer s H E) (G0 st) t/\t { nx:=fun _ H'=>Q .non H',rt:=Q } (S5 N vs) H):FnOk P w K mg base (CX1 P w) (k + 1) f fd ps sp:=by
 obtain ⟨oc,od,kV,doc,pm,an,cdv,ct,osl,rfl,lk,hcd⟩:=F.ex
 exact Qh lk hcd S len fun A outer s H vs Q E hr hsp=>hbody cdv A outer s H vs Q E hr hsp
noncomputable def Je (ea C:Addr):HO:=.ext fun h=>∃o vs,h.get? ea=some o/\o.cls = .ref C/\o.data = .fields vs
noncomputable abbrev Cx.within (X:Cx) (ea:Addr):Cx:={ X with A:=X.A.mark (some (.ref ea)),calm:=false,xe:=fun _ _=>False }
section
variable {X:Cx} {pins:List (Addr × Obj)} {σ:St} {H:Hp} {s:Shared} {ea:Addr}
theorem Inv.inS (I:Inv X pins σ H s) (ea:Addr):Inv (X.within ea) pins σ H s:=
 ⟨⟨I.ok.mod,I.ok.kind,I.ok.glob,I.ok.blt,I.ok.above,I.ok.inj,I.ok.has,I.ok.cab,(fun z=>by cases z),I.ok.frames,I.ok.stk,I.ok.exf,I.ok.bs,I.ok.bsz,I.ok.noex,I.ok.exfs,I.ok.funs,I.ok.frf⟩,I.os,I.bare,I.base,I.loc,I.cell,I.free,I.freeC,I.pin,I.hok,I.len⟩
theorem Inv.outS (hd:X.calm=true->X.A.handled=none) (I:Inv (X.within ea) pins σ H s):Inv X pins σ H s:=
 ⟨⟨I.ok.mod,I.ok.kind,I.ok.glob,I.ok.blt,I.ok.above,I.ok.inj,I.ok.has,I.ok.cab,hd,I.ok.frames,I.ok.stk,I.ok.exf,I.ok.bs,I.ok.bsz,I.ok.noex,I.ok.exfs,I.ok.funs,I.ok.frf⟩,I.os,I.bare,I.base,I.loc,I.cell,I.free,I.freeC,I.pin,I.hok,I.len⟩
theorem Inv.goes {M:Model} {A:Around} {E:Value->Shared->Prop} {l:Nat} {n:Str} {pos:Pos} {Q:Unit->Shared->Prop} (I:Inv X pins σ H s) (hN:X.N.Nodup) (hi:X.N[l]? = some n) (hk:X.env.kindOf n=some .local)
  (h:∀s',Inv X pins (σ.set l none) H s'->Q () s'):wpAny M A (do bindName X.env n .none; unbindBehindTheSuite X.env n pos) Q E s:=by
 obtain ⟨m,hn,hl⟩:=id I.loc
 have hcls:(X.env.scope.kind == .class || (X.env.scope.kind == .module && X.env.locals != X.env.globals))=false:=by rw [I.ok.kind]; rfl
 obtain ⟨oL,_,_,hoL,_⟩:=id hn
 refine wpAny_nameGoes_keeps hk hn hcls fun h' v hn' hs=>h _ ?_
 have ne0:∀b o,X.s₀.heap.get? b=some o->b≠X.env.locals:=fun b o e=>Zs_ (Zq_ (Zn_ e) I.ok.above)
 have same:∀b o,b≠X.env.locals->s.heap.get? b=some o->h'.get? b=some o:=fun b o ne e=>(hs.2 b ne).trans e
 refine ⟨I.ok,I.os,I.bare,⟨fun b o e n' hb hx=>same b o (ne0 b o e) (I.base.keep b o e n' hb hx),fun b o e n' hb hx=>?_,I.base.free,fun b o e hx=>?_,I.base.tups,I.base.frzs,I.base.tbls⟩,⟨_,hn',fun j y v' e1 e2 e3=>?_⟩,fun y c e=>?_,I.free,I.freeC,fun p hp=>?_,fun b ob e=>?_,by simpa using I.len⟩
 ·obtain ⟨sl,e1⟩:=I.base.slot b o e n' hb hx
  exact ⟨sl,same b _ (ne0 b o e) e1⟩
 ·obtain ⟨o',e1⟩:=I.base.there b o e hx
  exact ⟨o',same b o' (ne0 b o e) e1⟩
 ·have hj:j≠l:=fun z=>by
   subst z
   rw [List.getElem?_set] at e2
   simp at e2
  rw [List.getElem?_set_ne (Ne.symm hj)] at e2
  obtain ⟨u',r',q⟩:=hl j y v' e1 e2 e3
  refine ⟨u',r',?_⟩
  rcases q with ⟨k,e⟩ | ⟨k,c,e,z⟩
  ·refine .inl ⟨k,?_⟩
   have:y≠n:=fun e=>hj (Fb hN e1 (e ▸ hi))
   simp [this,e]
  ·exact .inr ⟨k,c,e,z.sameBut hs (I.cne y c e)⟩
 ·obtain ⟨w',z⟩:=I.cell y c e
  exact ⟨w',z.sameBut hs (I.cne y c e)⟩
 ·obtain ⟨e,n',ne,nf,d⟩:=I.pin p hp
  exact ⟨same _ _ ne e,n',ne,nf,d⟩
 ·refine (I.hok b ob e).stay (fun c w' hc q=>same c w' ?_ q) (fun _ q=>q) fun _ _ q=>q
  rintro rfl
  rcases hc with rfl | hc
  ·rw [I.free] at e; cases e
  ·rw [I.free] at hc; cases hc
theorem Fly.landed {H':Hp} {s':Shared} {C:Addr} {B h2:Heap} (I:Inv X pins σ H s) (F:Fly X.prog X.w X.stack H H' s s' ea C B) {a0:Value} (f:Heap.FlyingW B X.stack ea (.ref C) a0 h2) (k2:s'.heap.UpToSlots h2) :
  Inv X pins σ (upd H' ea (Je ea C)) { s' with heap:=h2 }:=by
 have u:=F.over I f.1 k2
 have hn:=F.fresh
 obtain ⟨oe,vs,hoe,hoc,hod,_⟩:=f.first
 have nfr:ea∉frs X.stack:=fun hm=>by
  obtain ⟨_,o,ho,hd⟩:=f.2.2.1.mem hm
  rw [hoe] at ho
  cases ho
  exact hd vs hod
 have nes:∀b o,s.heap.get? b=some o->H b=none->b≠ea:=fun b o e n z=>by
  subst z
  have:=F.inB b o e n nfr
  rw [f.2.1] at this
  cases this
 refine I.call' (ch:=[]) (s':={ s' with heap:=h2 }) F.os ⟨u.keep,u.slot,fun b o e n hx=>?_,u.there,fun b xs e=>?_,fun b o xs e=>?_,fun b ps e=>?_⟩ (fun b ob e=>?_) F.bare fun b hb=>absurd hb (by simp)
 ·rw [C8 (nes b o e n)]
  exact u.free b o e n hx
 ·have:=u.tups b xs e
  rw [C8 (C4 this hn)]
  exact this
 ·have:=u.frzs b o xs e
  rw [C8 (C4 this hn)]
  exact this
 ·obtain ⟨more,h3⟩:=u.tbls b ps e
  exact ⟨more,by rw [C8 (C4 h3 hn)]; exact h3⟩
 ·by_cases z:b=ea
  ·subst z
   rw [A6] at e
   cases e
   exact ⟨⟨oe,vs,hoe,hoc,hod⟩,⟨oe,hoe⟩,fun h1 h2' ⟨o,vs',h3,h4,h5⟩ k=>⟨o,vs',k o h3,h4,h5⟩⟩
  ·rw [C8 z] at e
   exact ((F.hok.kept f.1) b ob e).stay (fun _ _ _ q=>q) (fun c q=>by rw [C8 (C4 q hn)]; exact q) fun c xs q=>by rw [C8 (C4 q hn)]; exact q
end
noncomputable def Ad9 (X:Cx) (st:List Stmt) (t:(St->Hp->Prop)->(St->XK)->St->Hp->Prop):Prop:=
 ∀(pins:List (Addr × Obj)) (s:Shared) (σ:St) (H:Hp) (N:St->Hp->Prop) (E:St->XK),Inv X pins σ H s->t N E σ H->
  wpAny (model X.prog X.w) X.A (execs st X.env) (fun f s1=>f = .next/\∃σ' H',Inv X pins σ' H' s1/\N σ' H') (fun e s'=>∃σ' H1 s1,Inv X pins σ' H1 s1/\CX1 X.prog X.w X.stack H1 s1 (E σ') e s') s
section
variable {X:Cx} {k:Nat} {f:Addr} {fd:FuncData} {ps:List Str} {sp:Sp} {x y:Str} {p yp ap pos:Pos} {e:Expr} {es:List Expr} {t:TA} {i:Nat}
end
section
variable {X:Cx} {body:List Stmt} {tb:(St->Hp->Prop)->(St->XK)->St->Hp->Prop} {cx n z:Str} {c:Value} {cp np zp zp2 hp pos:Pos} {j l:Nat}
end
structure ExcI (K:Θf) (C:Addr):Prop where
 ga:PySem.W.findIn K (.ref C) "__getattribute__" = some (some (.builtin "BaseException.__getattribute__"))
 gh:PySem.W.findIn K (.ref C) "__getattr__" = some none
 sb:PySem.W.subIn K (.ref C) (.type "BaseException")=some true
 hd:PySem.W.hasDictIn K C=true
 at_:PySem.W.findIn K (.ref C) "__class__" = some (some (.builtin "object.__class__"))
 gt:PySem.W.specialIn K (.builtin "object.__class__") "__get__" = some (some (.builtin "getset_descriptor.__get__"))
 tk:PySem.W.takesIn K (.builtin "object.__class__")=some true
 mr:PySem.W.mroIn K C (.type "object")=some true
theorem ExcI.cls {K:Θf} {C:Addr} (e:ExcI K C):∃oc od cd sl,K.lookup C=some ⟨oc,od,.cls cd,sl⟩:=by
 obtain ⟨cd,h,_⟩:=PySem.W.any_some e.hd
 revert h
 unfold PySem.W.clsIn
 cases q:K.lookup C with
 | none=>intro h; cases h
 | some o=>
  obtain ⟨oc,od,dt,sl⟩:=o
  cases dt with
  | cls c=>exact fun _=>⟨_,_,_,_,rfl⟩
  | _=>intro h; cases h
section
open PySem.W PySem.Calls PySem.Builtin PySem.Builtin.ObjectAttr PySem.Builtin.Getset_descriptor
variable {K:Θf} {prog:Program} {w:World} {A:Around} {E:Value->Shared->Prop} {s:Shared} {ea C:Addr}
theorem Vl {M:Model} {h:Heap} (e:ExcI K C) (X:K.In h):Looks M h (find (.ref ea) (.ref C) "__class__") (.bind (.builtin "getset_descriptor.__get__") (.builtin "object.__class__")):=by
 unfold find
 exact (looks_findIn X e.at_).andThen (Looks.andThen (looks_specialIn X e.gt) (Looks.andThen ((looks_takesIn X e.tk).andThen .now) (Looks.tag .now)))
theorem Hd {nameV:Value} {Q:Unit->Shared->Prop} (e:ExcI K C) (X:K.In s.heap) (known:Looks (model prog w) s.heap (typeOf (.ref ea)) (.ref C)) (h:Q () s) :
  wpAny (model prog w) A (checkBuiltinCall "BaseException.__getattribute__" ⟨[.ref ea,nameV],[]⟩) Q E s:=by
 obtain ⟨H0,g0,d0,t0,o0⟩:=s
 have kind:builtinKind "BaseException.__getattribute__" = some .slot:=by decide +kernel
 have cut:splitId "BaseException.__getattribute__" = some ("BaseException","__getattribute__"):=by decide +kernel
 have fit:=F.args_bexc_ga (.ref ea) nameV
 simp only [checkBuiltinCall,kind,cut]
 apply Za_
 apply Za_
 refine known.at ((looks_subIn X e.sb).at ?_)
 simp only [Bool.not_true,Bool.false_eq_true,if_false]
 repeat (any_goals (first | assumption | wp_step))
theorem Sm {Q:Option Value->Shared->Prop} (e:ExcI K C) (X:K.In s.heap) (hT:∃o,s.heap.get? ea=some o/\o.cls = .ref C) (h:Q (some (.ref C)) { s with toks:=s.toks + 1 }) :
  wpAny (model prog w) A (getAttr? (.ref ea) "__class__") Q E s:=by
 obtain ⟨H0,g0,d0,t0,o0⟩:=s
 obtain ⟨ob,hob,hcl⟩:=hT
 have known:Looks (model prog w) H0 (typeOf (.ref ea)) (.ref C):=hcl ▸ (Looks.ld hob).andThen .now
 have self:=looks_mroIn (M:=model prog w) X e.mr
 have told:∀{A':Around} {R:Result->Shared->Prop},R (.ok (.ret (.ref C))) ⟨H0,g0,d0,t0 + 1,o0⟩->codeAny (model prog w) A' (.call (.builtin "getset_descriptor.__get__") ⟨[.builtin "object.__class__",.ref ea,.ref C],[]⟩) R ⟨H0,g0,d0,t0 + 1,o0⟩:=fun {A' R} hR=>
  codeAny_call_builtin KF.slot_gs.plain KF.entry_gs <| KF.slot_gs.check _ _ _ _ _ _ _ _ KF.type_class (KF.args_gs _ _ _) <| by
   unfold Builtin.«getset_descriptor.__get__» descrGet descrGetter descrCheckInstance descrNameAndClass isInstance
   rw [dga_obj]
   apply Za_
   apply Zb_
   simp only [KF.owner_class]
   repeat lk
   constructor
   ·exact Code.quiet_builtin _ (by decide +kernel)
   ·apply codeAny_builtin KF.entry_class
    unfold Builtin.«object.__class__» shownTypeOf
    repeat lk
    assumption
 have other:(onTheHeap (Value.ref C) && Value.builtin "BaseException.__getattribute__" == Value.builtin "object.__getattribute__")=false:=by
  rw [show (Value.builtin "BaseException.__getattribute__" == Value.builtin "object.__getattribute__")=false from by decide +kernel,Bool.and_false]
 unfold getAttr? getAttrBy? getAttrBy
 apply Za_
 apply wpAny_mkText
 apply Za_
 apply wpAny_attempt
 apply wpAny_holding
 apply Za_
 refine known.at (Za_ ((looks_findIn X e.ga).at ?_))
 simp only [other,Bool.false_eq_true,if_false]
 unfold getAttrByItsOwn hookBefore
 rw [if_pos (show onTheHeap (Value.ref C)=true from rfl)]
 apply Za_
 refine (looks_findIn X e.gh).at ?_
 apply Za_
 apply wpAny_attempt
 apply wpAny_holding
 unfold callGetattribute boundAndCalled
 simp only [Bool.false_and,Bool.false_eq_true,if_false]
 rw [F.excAttr_ValueError.ga.bind (.ref ea)]
 apply Za_
 apply Zb_
 refine wpAny_call (codeAny_call_builtin F.excAttr_ValueError.ga.plain F.entry_bexc_ga (Hd (s:=⟨H0,g0,d0,t0 + 1,o0⟩) e X known ?_))
 have found:=Vl (M:=model prog w) (ea:=ea) e X
 unfold Builtin.«object.__getattribute__»
 repeat (first | (with_reducible refine wpAny_call (told ?_)) | assumption | lk | wp_step)
noncomputable def Afi (ea C:Addr) (h:Heap):Prop:=∃o,h.get? ea=some o/\o.cls = .ref C
theorem Vy (e:ExcI K C):PySem.W.KitX K (.ref ea) (.ref C) (Afi ea C) where
 ty:=fun _ _ _ ⟨_,h1,h2⟩=>h2 ▸ (Looks.ld h1).andThen .now
 it:=fun _ _ X _=>by
  obtain ⟨oc,od,cd,sl,hl⟩:=e.cls
  intro _ _ _ _ k q
  unfold isType loadHead
  apply Za_
  exact wpAny_loadPart (k _ _ (X _ _ hl)) (Zb_ q)
 ne:=fun h tp dd its n sl X htp=>by
  obtain ⟨oc,od,cd,sl',hl⟩:=e.cls
  cases z:(Value.ref C == Value.ref tp) with
  | false=>rfl
  | true=>
   cases Value.ref.inj (beq_iff_eq.mp z)
   have:=X _ _ hl
   rw [htp] at this
   cases this
 ca:=fun X p k=>Sm e X p k
end
theorem S9 {X:Cx} {K:Θf} (hK:X.K=K):P1 X (.builtin "isinstance") (fun vs H Q=>∃ea C c b,vs=[.ref ea,c]/\H ea=some (Je ea C)/\ExcI K C/\(∀u,RelV c u->PySem.W.kitOne K (.ref C) u=some b)/\Q (.bl b) H):=by
 subst hK
 intro pins s σ H xs us Q I r h
 obtain ⟨ea,C,c,b,rfl,he,i,hk,q⟩:=h
 obtain ⟨u,v,rfl,rx,ry⟩:=Ru r
 cases rx
 obtain ⟨⟨o,vs,h1,h2,_⟩,_⟩:=I.hok ea _ he
 exact PySem.W.kia_one (Vy i) I.kIn ⟨o,h1,h2⟩ (hk v ry) (by intro z; cases z) fun tk=>⟨.bl b,H,I.tok tk,rfl,q⟩
section
variable {X:Cx}
end
end L2
namespace L2
open PySem PySem.Spec PyProof.Rows PySem.W
noncomputable def Aer (a:Nat):Nat:=((List.range 7).filter (Jg a)).length
noncomputable def M9 (a m:Nat):List Nat:=(List.range (a + 1)).filter fun x=>decide (x&&&a=x) && decide (Aer x=m)
noncomputable def Dr (a m:Nat):List Nat:=(List.range m).flatMap (M9 a)
noncomputable def Ace (a:Nat):List Nat:=Dr a 8
noncomputable def Zf (a x:Nat):List Nat:=((E1 a).filter fun c=>decide (x < 2 ^ c)).map fun c=>x|||2 ^ c
noncomputable def W2 (a:Nat) (l:List Nat):List Nat:=l.flatMap (Zf a)
theorem Hr:∀a,a < 128->∀i,i < 8->(W2 a (M9 a i)).isPerm (M9 a (i + 1))=true:=by decide +kernel
theorem Dz:∀a,a < 128->∀i,i < 9->(M9 a i).length<=35:=by decide +kernel
theorem Ya:∀a,a < 128->M9 a 0=[0]:=by decide +kernel
theorem Xz:∀a,a < 128->M9 a 8=[]:=by decide +kernel
theorem Abc:∀a,a < 128->∀i,i < 9->M9 a i=[]->Dr a i=Ace a:=by decide +kernel
theorem Abu:∀a,a < 128->(E1 a).length<=7/\(E1 a).all (fun c=>decide (c < 7))=true:=by decide +kernel
theorem Ado (a m:Nat):(M9 a m).Pairwise (·<=·):=by
 have h:∀n,(List.range n).Pairwise (·<=·):=fun n=>List.Pairwise.imp Nat.le_of_lt List.pairwise_lt_range
 exact (h _).filter _
theorem Adn {a i:Nat} (ha:a < 128) (hi:i < 8) {ns:List Int} (p:ns.Perm ((W2 a (M9 a i)).map fun (k:Nat)=>(k:Int))) (s:ns.Pairwise (·<=·)):ns=(M9 a (i + 1)).map fun (k:Nat)=>(k:Int):=by
 have p2:=p.trans ((List.isPerm_iff.mp (Hr a ha i hi)).map fun (k:Nat)=>(k:Int))
 refine List.Perm.eq_of_pairwise (le:=fun (x y:Int)=>x<=y) (fun x y _ _ h1 h2=>Int.le_antisymm h1 h2) s ?_ p2
 rw [List.pairwise_map]
 exact (Ado a (i + 1)).imp fun h=>Int.ofNat_le.mpr h
theorem Gz (a m:Nat):Dr a (m + 1)=Dr a m++M9 a m:=by
 unfold Dr
 rw [List.range_succ,List.flatMap_append]
 simp
theorem Vj (a m:Nat) (ha:a < 128) (hm:m < 9):(Dr a m).length<=35 * m:=by
 induction m with
 | zero=>exact Zp_ _
 | succ m ih=>
  rw [Gz,Zv_]
  have h1:=Dz a ha m (by omega)
  have h2:=ih (by omega)
  omega
theorem Nb (a x:Nat) (ha:a < 128):(Zf a x).length<=7:=by
 unfold Zf
 rw [Θl]
 exact Zo_ (List.length_filter_le _ _) (Abu a ha).1
theorem Hq (a:Nat) (ha:a < 128):∀l:List Nat,(W2 a l).length<=7 * l.length
 | []=>Zp_ _
 | x :: l=>by
  have h1:=Hq a ha l
  have h2:=Nb a x ha
  show (Zf a x++W2 a l).length<=_
  rw [Zv_,ZA]
  omega
theorem Oa {a i x:Nat} {l:List Nat} (h:l[i]? = some x):W2 a (l.take (i + 1))=W2 a (l.take i)++Zf a x:=by
 unfold W2
 rw [List.take_succ,h,List.flatMap_append]
 simp
theorem Same.own3 {H H':Hp} {p:Addr} {o:HO} (e:Same H H') (h:H p=Option.none):Same H (upd H' p o):=fun c u z=>by
 rw [C8 (C4 z h)]; exact e _ _ z
noncomputable def Ro:Sp:=fun vs H Q _=>∃(p:Addr) (a i:Nat),vs=[.ref p,vN a]/\a < 128/\i < 8/\H p=some (.lst ((M9 a i).map vN))/\∀(l:Addr) (H':Hp),Same H H'->H l=none->H' l=some (.lst ((M9 a (i + 1)).map vN))->Q (.ref l) H'
noncomputable def Rq:Sp:=fun vs H Q _=>∃a:Nat,vs=[vN a]/\a < 128/\∀(l:Addr) (H':Hp),Same H H'->H l=none->H' l=some (.lst ((Ace a).map vN))->Q (.ref l) H'
end L2
namespace L2
open PySem PySem.Spec PyProof.Rows
section
variable {X:Cx} {K:Θf}
theorem Rx (bs:List Bool):((List.range bs.length).any fun i=>bs.getD i true)=bs.any id:=by
 rw [Bool.eq_iff_iff,List.any_eq_true,List.any_eq_true]
 constructor
 ·rintro ⟨i,hi,h⟩
  have hi':=List.mem_range.mp hi
  rw [Zu_,Θh hi'] at h
  exact ⟨_,List.getElem_mem hi',h⟩
 ·rintro ⟨b,hb,h⟩
  obtain ⟨i,hi,rfl⟩:=List.getElem_of_mem hb
  refine ⟨i,List.mem_range.mpr hi,?_⟩
  rw [Zu_,Θh hi]
  exact h
theorem Se (h:X.K=K) (hc:X.calm=true):P1 X (.builtin "any") (fun xs H Q=>∃(p:Addr) (bs:List Bool),xs=[.ref p]/\SqL K H p (bs.map V.bl)/\Q (.bl (bs.any id)) H):=by
 subst h
 intro pins s σ H xs us Q I r h
 obtain ⟨p,bs,rfl,hq,q⟩:=h
 obtain ⟨u,rfl,rx⟩:=V6 r
 cases rx
 obtain ⟨its,rv,pl,hz⟩:=I.list hq
 have len:its.length=bs.length:=by rw [<-rv.length,Θl]
 refine call_any_walk (wpAny_pyIter_list pl.isList ⟨s.heap.objs.size,[s.heap.objs.size,p],[s.heap.objs.size],its.toArray.size,_,_,fun i=>bs.getD i true,rfl,Walks.list (A:=X.A.in1) (I.ok.hd hc) _ p (Zs_ pl.lt) its.toArray,⟨⟨_,Zm_ _ rfl,rfl,rfl⟩,pl.isList.push _⟩,fun i v s' Q' E' hP hQ=>?_,fun h' tk hk=>?_⟩)
 ·have hP':its[i]? = some v:=by simpa using hP
  have hi:i < bs.length:=by rw [<-len]; exact (Ze_.mp hP').1
  obtain ⟨c,e1,r1⟩:=rv.get (i:=i) (x:=V.bl bs[i]) (by rw [Θg,Θh hi]; rfl)
  rw [hP'] at e1
  obtain rfl:=Θo e1
  obtain rfl:v=Value.bool bs[i]:=r1
  refine wpAny_truthy_bool ?_
  have hQ':Q' (bs.getD i true) s':=hQ
  rwa [Zu_,Θh hi] at hQ'
 ·refine ⟨.bl (bs.any id),H,I.kept fun b o e=>hk b o (fun hm=>?_) (Zc_ _ e),?_,q⟩
  ·rw [Θs hm] at e
   exact Nat.lt_irrefl _ (Zn_ e)
  ·show _=Value.bool _
   rw [Zx_,len,Rx]
end
noncomputable def Dp (m:Nat) (rs:List RD) (x:Nat):Prop:=∀d,Gm m rs d->Py x d->False
theorem Blocks.whole {m x fx:Nat} {rs:List RD} {bs:List Nat} (B:Blocks m rs x fx bs):fx=2 ^ m - 1↔Dp m rs x:=by
 have hs:=B.good.sum
 constructor
 ·intro e d hd ha
  obtain ⟨b,hb,_⟩:=B.holds d hd ha
  have h1:=Jm hb
  have h2:=B.good.pos b hb
  omega
 ·intro h
  cases bs with
  | nil=>exact hs
  | cons b bs=>exact (h b (B.kept b (Θc ..)) (B.apart b (Θc ..))).elim
noncomputable def wiB (x:Nat) (f:List Nat):Bool:=f.any fun y=>decide (y&&&x=y)
open Classical in
noncomputable def Ax (m:Nat) (rs:List RD) (f:List Nat) (x:Nat):List Nat:=if wiB x f=false/\Dp m rs x then f++[x] else f
noncomputable def R3 (m:Nat) (rs:List RD) (l:List Nat):List Nat:=l.foldl (Ax m rs) []
theorem T5 {m x:Nat} {rs:List RD} {f:List Nat} (h1:wiB x f=false) (h2:Dp m rs x):Ax m rs f x=f++[x]:=by unfold Ax; rw [if_pos ⟨h1,h2⟩]
theorem Y0 {m x:Nat} {rs:List RD} {f:List Nat} (h:¬(wiB x f=false/\Dp m rs x)):Ax m rs f x=f:=by unfold Ax; rw [if_neg h]
theorem Nu {m x i:Nat} {rs:List RD} {l:List Nat} (h:l[i]? = some x):R3 m rs (l.take (i + 1))=Ax m rs (R3 m rs (l.take i)) x:=by
 unfold R3
 rw [List.take_succ,h,List.foldl_append]; rfl
theorem Vv (m:Nat) (rs:List RD) (f:List Nat) (x:Nat):(Ax m rs f x).length<=f.length + 1:=by
 by_cases h:wiB x f=false/\Dp m rs x
 ·rw [T5 h.1 h.2,Zv_]; exact Zd_ _
 ·rw [Y0 h]; exact Nat.le_succ _
theorem Hm (m:Nat) (rs:List RD):∀(l f:List Nat),(l.foldl (Ax m rs) f).length<=f.length + l.length
 | [],f=>Zd_ _
 | x :: l,f=>by
  have h1:=Hm m rs l (Ax m rs f x)
  have h2:=Vv m rs f x
  rw [List.foldl_cons,ZA]
  omega
theorem Hl (m:Nat) (rs:List RD) (l:List Nat):(R3 m rs l).length<=l.length:=by
 have:=Hm m rs l []
 unfold R3
 simpa using this
theorem Abs (x:Nat) (f:List Nat):(f.map fun y=>decide (y&&&x=y)).any id=wiB x f:=by
 unfold wiB
 rw [List.any_map]; rfl
noncomputable def Af2 (m x:Nat):Nat:=((List.range m).map fun k=>x / 2 ^ k&&&1).sum
noncomputable def Ae5 (m s:Nat):List Nat:=(List.range s).flatMap fun n=>(List.range (2 ^ m)).filter fun x=>decide (Af2 m x=n)
noncomputable def K2 (m:Nat):List Nat:=Ae5 m (m + 1)
theorem Yp:∀m,m < 8->K2 m=Ace (2 ^ m - 1):=by decide +kernel
theorem Fs:∀m,m < 8->(K2 m).length=2 ^ m/\(K2 m).all (fun x=>decide (x < 2 ^ m))=true/\(K2 m).contains (2 ^ m - 1)=true:=by decide +kernel
noncomputable def Fy (K:Θf):Sp:=fun vs H Q _=>∃(x:Nat) (p:Addr) (f:List Nat),vs=[vN x,.ref p]/\SqL K H p (f.map vN)/\f.length<=200/\∀H',Same H H'->Q (.bl (wiB x f)) H'
noncomputable def Yw (K:Θf):Sp:=fun vs H Q _=>∃(m:Nat) (rl:Addr) (rs:List Rl),vs=[vN m,.ref rl]/\m<=7/\SqL K H rl (rs.map fun r=>V.ref r.r)/\RulesAt H m rs/\rs.length<=200/\
 ∀(p:Addr) (H':Hp),Same H H'->H p=none->H' p=some (.lst ((R3 m (rs.map Rl.d) (K2 m)).map vN))->Q (.ref p) H'
section
variable {X:Cx} {K:Θf}
theorem Js (h:X.K=K):OpR X (compareOp .In) (rIn K false):=h ▸ Tp
end
noncomputable def Tr:List Nat->Bool
 | []=>true
 | a :: r=>r.all (fun b=>!decide (b&&&a=b)) && Tr r
theorem Yq:∀m,m < 8->Tr (K2 m)=true:=by decide +kernel
theorem Yo:∀m,m < 8->∀x,x < 2 ^ m->(K2 m).contains x=true:=by decide +kernel
theorem Ts {a:Nat} {r:List Nat} (h:Tr (a :: r)=true):(∀b∈r,b&&&a≠b)/\Tr r=true:=by
 rw [Tr,Bool.and_eq_true,List.all_eq_true] at h
 refine ⟨fun b hb=>?_,h.2⟩
 have:=h.1 b hb
 rw [Bool.not_eq_true',decide_eq_false_iff_not] at this
 exact this
theorem Zi {z a x:Nat} (h1:z&&&a=z) (h2:a&&&x=a):z&&&x=z:=by
 rw [<-h1,Nat.and_assoc,h2]
theorem wiB_iff {x:Nat} {f:List Nat}:wiB x f=true↔∃y∈f,y&&&x=y:=by
 unfold wiB
 rw [List.any_eq_true]
 exact ⟨fun ⟨y,h1,h2⟩=>⟨y,h1,Zj_ h2⟩,fun ⟨y,h1,h2⟩=>⟨y,h1,Zr_ h2⟩⟩
theorem Ad5 {x:Nat} {f:List Nat} (h:wiB x f=false):∀y∈f,y&&&x≠y:=fun y hy e=>by
 rw [wiB_iff.mpr ⟨y,hy,e⟩] at h
 cases h
theorem Ex {m a x:Nat} {rs:List RD} {f:List Nat} (h:x∈f):x∈Ax m rs f a:=by
 by_cases z:wiB a f=false/\Dp m rs a
 ·rw [T5 z.1 z.2]; exact List.mem_append.mpr (.inl h)
 ·rw [Y0 z]; exact h
theorem Cd {m:Nat} {rs:List RD} {x:Nat}:∀(l f:List Nat),x∈f->x∈l.foldl (Ax m rs) f
 | [],f,h=>h
 | a :: l,f,h=>Cd l _ (Ex h)
theorem Hn {m:Nat} {rs:List RD} {x:Nat} (hA:Dp m rs x):∀(l f:List Nat),x∈l->wiB x (l.foldl (Ax m rs) f)=true
 | a :: l,f,h=>by
  rcases Zg_.mp h with rfl | h
  ·rw [List.foldl_cons]
   by_cases z:wiB x f=false
   ·rw [T5 z hA]
    exact wiB_iff.mpr ⟨x,Cd l _ (List.mem_append.mpr (.inr (List.mem_singleton.mpr rfl))),Nat.and_self x⟩
   ·rw [Y0 fun h=>z h.1]
    have z':wiB x f=true:=by cases e:wiB x f with | true=>rfl | false=>exact absurd e z
    obtain ⟨y,h1,h2⟩:=wiB_iff.mp z'
    exact wiB_iff.mpr ⟨y,Cd l _ h1,h2⟩
  ·exact Hn hA l _ h
theorem Z6 {m:Nat} {rs:List RD} {x:Nat}:∀(l f:List Nat),Tr l=true->x∈l.foldl (Ax m rs) f->x∈f\/(x∈l/\Dp m rs x/\(∀y∈f,y&&&x≠y)/\∀y∈l,Dp m rs y->y&&&x=y->y=x)
 | [],f,_,h=>.inl h
 | a :: l,f,ho,h=>by
  obtain ⟨o1,o2⟩:=Ts ho
  rw [List.foldl_cons] at h
  rcases Z6 l _ o2 h with h | ⟨h1,h2,h3,h4⟩
  ·by_cases z:wiB a f=false/\Dp m rs a
   ·rw [T5 z.1 z.2] at h
    rcases Θa h with h | h
    ·exact .inl h
    ·rw [Θs h]
     refine .inr ⟨Θc ..,z.2,Ad5 z.1,fun y hy _ hw=>?_⟩
     rcases Zg_.mp hy with rfl | hy
     ·rfl
     ·exact absurd hw (o1 y hy)
   ·rw [Y0 z] at h; exact .inl h
  ·refine .inr ⟨Θd _ h1,h2,fun y hy=>h3 y (Ex hy),fun y hy hA hw=>?_⟩
   rcases Zg_.mp hy with rfl | hy
   ·exfalso
    by_cases z:wiB y f=false
    ·refine h3 y ?_ hw
     rw [T5 z hA]
     exact List.mem_append.mpr (.inr (List.mem_singleton.mpr rfl))
    ·have z':wiB y f=true:=by cases e:wiB y f with | true=>rfl | false=>exact absurd e z
     obtain ⟨v,hv,hvy⟩:=wiB_iff.mp z'
     exact h3 v (Ex hv) (Zi hvy hw)
   ·exact h4 y hy hA hw
theorem Wg {m:Nat} {rs:List RD} (m7:m<=7) {x:Nat}:x∈R3 m rs (K2 m)↔x < 2 ^ m/\Dp m rs x/\∀y,y < 2 ^ m->Dp m rs y->y&&&x=y->y=x:=by
 have ho:=Yq m (by omega)
 obtain ⟨_,hlt,_⟩:=Fs m (by omega)
 have lt:∀x∈K2 m,x < 2 ^ m:=fun x hx=>Zj_ (List.all_eq_true.mp hlt x hx)
 have mem:∀x,x < 2 ^ m->x∈K2 m:=fun x hx=>List.contains_iff_mem.mp (Yo m (by omega) x hx)
 constructor
 ·intro hx
  rcases Z6 _ _ ho hx with h | h
  ·exact absurd h Zi_
  ·exact ⟨lt x h.1,h.2.1,fun y hy hA hw=>h.2.2.2 y (mem y hy) hA hw⟩
 ·rintro ⟨h1,h2,h3⟩
  obtain ⟨y,hy,ey⟩:=wiB_iff.mp (Hn h2 (K2 m) [] (mem x h1))
  have hy':y∈R3 m rs (K2 m):=hy
  rcases Z6 _ _ ho hy with h | h
  ·exact absurd h Zi_
  ·rw [h3 y (lt y h.1) h.2.1 ey] at hy'
   exact hy'
end L2
namespace L2
open PySem PySem.Spec PyProof.Rows
open Classical in
noncomputable def unfF (m:Nat) (rs:List RD) (x:Nat):US:=if h:∃t,Run rs ⟨x,E9 m x,[]⟩ t then h.choose else ⟨x,[],[]⟩
theorem Run.unfF {m x:Nat} {rs:List RD} {s:US} (R:Run rs ⟨x,E9 m x,[]⟩ s):L2.unfF m rs x=s:=by
 have h:∃t,Run rs ⟨x,E9 m x,[]⟩ t:=⟨s,R⟩
 unfold L2.unfF
 rw [dif_pos h]
 exact h.choose_spec.det R
end L2
namespace L2
open PySem PySem.Spec PyProof.Rows
theorem FnOk.calm {P:Program} {w:World} {K:Θf} {mg:Str->Option Value} {base:Heap} {k:Nat} {f:Addr} {fd:FuncData} {ps:List Str} {sp:Sp} (F:FnOk P w K mg base (CX1 P w) k f fd ps sp) :
  FnOk P w K mg base CX0 k f fd ps (fun vs H Q _=>sp vs H Q fun _ _ _=>False):=
 ⟨fun vs H Q _ h=>F.len vs H Q _ h,fun A outer s H args us vs Q E hr he hb hv hs=>codeAny_mono (F.run A outer s H args us vs Q _ hr he hb hv hs) fun r s' h=>by
  cases r with
  | error e=>
   obtain ⟨_,_,_,_,_,_,z⟩:=(show CX1 P w outer H s (fun _ _ _=>False) e s' from h)
   exact z.elim
  | ok fl=>
   cases fl with
   | ret u=>exact h
   | next=>exact h
   | brk=>exact h
   | cont=>exact h⟩
theorem Rs:∀{ys:List Str} {us:List Value},Vals (ys.map V.str) us->∃l:List (Str × Tok),us=strValues l/\l.map (·.1)=ys
 | [],_,.nil=>⟨[],rfl,rfl⟩
 | y :: ys,_,.cons r t=>by
  obtain ⟨tk,rfl⟩:=r
  obtain ⟨l,rfl,e⟩:=Rs t
  exact ⟨(y,tk) :: l,rfl,by rw [List.map_cons,e]⟩
theorem Cv:∀l:List (Str × Tok),Vals ((l.map (·.1)).map V.str) (strValues l)
 | []=>.nil
 | (y,tk) :: l=>.cons ⟨tk,rfl⟩ (Cv l)
section
variable {X:Cx}
theorem L1:MtR X "str.join" (fun x xs H Q=>∃(z:Str) (D:Addr) (ys:List Str),x = .str z/\xs=[.ref D]/\SqL X.K H D (ys.map V.str)/\JoinOk z ys=true/\Q (.str (Txt.join z ys)) H):=by
 intro pins s σ H x xs v us Q I rx rv h
 obtain ⟨z,D,ys,rfl,rfl,hD,ok,q⟩:=h
 obtain ⟨tk,rfl⟩:=rx
 obtain ⟨u,rfl,ru⟩:=rv.one
 cases ru
 obtain ⟨its,r,hl,_⟩:=I.list hD
 obtain ⟨l,rfl,e⟩:=Rs r
 exact SC.join hl.isList e ok fun t' k=>⟨.str _,H,I.tok k,⟨t',rfl⟩,q⟩
theorem Wj:MtR X "str.split" (fun x xs H Q=>∃z y:Str,x = .str z/\xs=[.str y]/\(y.length == 0)=false/\z.length<=1000/\(Txt.split z y).length<=1000/\∀D,H D=none->Q (.ref D) (upd H D (.lst ((Txt.split z y).map V.str)))):=by
 intro pins s σ H x xs v us Q I rx rv h
 obtain ⟨z,y,rfl,rfl,hy,hz,hn,q⟩:=h
 obtain ⟨tk,rfl⟩:=rx
 obtain ⟨u,rfl,ru⟩:=rv.one
 obtain ⟨tk2,rfl⟩:=ru
 have fin:∀(l:List (Str × Tok)) (k:Nat),l.map (·.1)=Txt.split z y->EP X pins σ Q (.ref s.heap.objs.size) { s with toks:=k,heap:=s.heap.push { cls:=.type "list",data:=.seq (strValues l).toArray } }:=fun l k e=>by
  refine ⟨.ref s.heap.objs.size,_,I.laid (t':=k) (o:=.lst ((Txt.split z y).map V.str)) (fun b ob q=>Zc_ _ q) (Zd_ _) ?_,rfl,q _ (I.hok.fresh (Zd_ _))⟩
  refine ⟨by rw [Θl]; exact Nat.le_of_lt (D4 hn),strValues l,0,by rw [<-e]; exact Cv l,Zm_ _ rfl⟩
 cases h1:(decide (z.length < y.length) || decide (Builtin.Str.strKind z < Builtin.Str.strKind y))
 ·cases hf:(Builtin.Str.occurrences z y 0 z.length (z.length + 1)).isEmpty
  ·have es:Txt.split z y=Builtin.Str.partsBetween z (Builtin.Str.occurrences z y 0 z.length (z.length + 1)) y.length:=(if_neg (ne_true_of_eq_false h1)).trans (if_neg (ne_true_of_eq_false hf))
   refine call_meets F.slot_str_split (typeIs_str _ _ _) F.entry_str_split (F.args_str_split_2 _ _) (meets_str_split_sep z y tk tk2 h1 hy hf (Nat.le_of_lt (D4 hz)) (by rw [<-es]; exact Nat.le_of_lt (D4 hn))) ?_
   show wants _ _ _ { s with toks:=_,heap:=s.heap.push { cls:=.type "list",data:=.seq (strsFrom s.toks (Builtin.Str.partsBetween z (Builtin.Str.occurrences z y 0 z.length (z.length + 1)) y.length)).toArray } }
   rw [strsFrom_eq]
   exact fin (numbered s.toks _) _ ((numbered_texts _ _).trans es.symm)
  ·have es:Txt.split z y=[z]:=(if_neg (ne_true_of_eq_false h1)).trans (if_pos hf)
   exact call_meets F.slot_str_split (typeIs_str _ _ _) F.entry_str_split (F.args_str_split_2 _ _) (meets_str_split_not_found z y tk tk2 h1 hy hf) (fin [(z,tk)] s.toks es.symm)
 ·have es:Txt.split z y=[z]:=if_pos h1
  exact call_meets F.slot_str_split (typeIs_str _ _ _) F.entry_str_split (F.args_str_split_2 _ _) (meets_str_split_cannot_occur z y tk tk2 h1) (fin [(z,tk)] s.toks es.symm)
theorem Ad0:SlR X (fun x lo hi H Q=>∃z:Str,x = .str z/\z.length<=1000/\Q (.str (Txt.slice z lo hi)) H):=by
 intro pins s σ H x v vl vu lo hi sl Q I rx hs pl pu h
 obtain ⟨z,rfl,hz,q⟩:=h
 obtain ⟨tk,rfl⟩:=rx
 refine ⟨"str",_,F.slot_str_getitem.lookup,typeIs_str _ _ _,?_⟩
 have fin:∀{l u:Option (Int × Tok)},l.map (·.1)=lo->u.map (·.1)=hi->s.heap.IsSlice sl l u none->wpAny (model X.prog X.w) X.A (getItem (.str z tk) (.ref sl)) (EP X pins σ Q) X.xe s:=fun {l u} e1 e2 h=>by
  refine wpAny_getItem_str_slice h rfl (post_val_or_str ⟨?_,fun t' k=>?_⟩)
  ·show (Txt.slice z (l.map (·.1)) (u.map (·.1))).length<=sizeLine
   exact Zo_ (Txt.slice_le _ _ _) (Nat.le_of_lt (D4 hz))
  ·refine ⟨.str (Txt.slice z lo hi),H,I.tok k,⟨t',?_⟩,q⟩
   rw [<-e1,<-e2]
   rfl
 cases pl with
 | none=>
  cases pu with
  | none=>exact fin (l:=none) (u:=none) rfl rfl hs
  | int j tj=>exact fin (l:=none) (u:=some (j,tj)) rfl rfl hs
 | int i ti=>
  cases pu with
  | none=>exact fin (l:=some (i,ti)) (u:=none) rfl rfl hs
  | int j tj=>exact fin (l:=some (i,ti)) (u:=some (j,tj)) rfl rfl hs
noncomputable def Af7 (te:TE):TE:=fun σ H Q=>te σ H fun x H1=>∃z:Str,x = .str z/\(reprText z).length<=100000/\∀y,Q (.str y) H1
theorem Adg {e:Expr} {te:TE} {b:Str} {j2:Nat} {p2 p3 pos:Pos} (he:PE X e te) (h2:b.length<=1000:=by decide):PE X (.JoinedStr [.FormattedValue e 114 none p2,.Constant (.str b) j2 p3] pos) (Af7 te):=by
 intro pins s σ H Q I h
 have sl:(200000:Nat) < sizeLine:=by rw [sizeLine_eq]; decide
 refine JoinedStr_many (joinParts_cons (wpAny_FormattedValue_repr (thn (he pins s σ H _ I h) fun u s1 ⟨v,H1,I1,r,z,ev,hz,q⟩=>?_)))
 subst ev
 obtain ⟨tk,rfl⟩:=r
 refine wpAny_pyReprObj_str ?_ (by omega)
 have he2:(Str.empty++reprText z).length=(reprText z).length:=by rw [strLen_append]; exact Nat.zero_add _
 refine formatField_str (fun t' k=>⟨by rw [he2]; omega,?_⟩) (by omega)
 have hz3:(Str.empty++reprText z++b).length<=101000:=by
  rw [strLen_append,he2]
  omega
 exact joinParts_cons (Calls.Constant_str ⟨by omega,joinParts_nil ⟨.str _,H1,I1.tok _,⟨_,rfl⟩,q _⟩ (by omega)⟩)
end
end L2
namespace L2
open PySem PySem.Spec PyProof.Rows
open Builtin.Str (occurrences subAt strSub partsBetween)
open PySem.StrLaws (occBody occ_eq subAt_one occ_chain ChainTo partsFrom partsBetween_eq join_split)
section
variable {x:Str} {c:Nat}
noncomputable def Adk (x:Str) (c:Nat) (i:Nat):Bool:=decide (x.cps.toList[i]? = some c)
theorem Jp:∀(n a:Nat) (st:Array Nat × Nat),st.2<=a->st.1.size<=a->a + n<=x.length + 1->
  (forIn (List.range' a n) st (occBody x ⟨#[c]⟩ x.length (x.length + 1))).run.fst.toList=st.1.toList++(List.range' a n).filter (Adk x c)
 | 0,a,st,_,_,_=>by simp
 | n + 1,a,st,h1,h2,h3=>by
  rw [List.range'_succ,List.forIn_cons]
  unfold occBody
  by_cases hc:x.cps.toList[a]? = some c
  ·obtain ⟨k1,k2⟩:=(subAt_one x c a).mpr hc
   rw [if_pos ⟨⟨⟨by omega,h1⟩,k1⟩,k2⟩]
   have ih:=Jp n (a + 1) (st.1.push a,a + (⟨#[c]⟩:Str).length) (Nat.le_refl _) (by simp; omega) (by omega)
   refine Eq.trans ih ?_
   rw [List.filter_cons_of_pos (by exact Zr_ hc),Array.toList_push,Zy_]
   rfl
  ·have no:¬(((st.1.size < x.length + 1/\st.2<=a)/\a + (⟨#[c]⟩:Str).length<=x.length)/\subAt x ⟨#[c]⟩ a=true):=fun z=>hc ((subAt_one x c a).mp ⟨z.1.2,z.2⟩)
   rw [if_neg no]
   have ih:=Jp n (a + 1) (st.1,st.2) (by show st.2<=a + 1; omega) (by show st.1.size<=a + 1; omega) (by omega)
   refine Eq.trans ih ?_
   rw [List.filter_cons_of_neg (by intro z; exact hc (Zj_ z))]
theorem Qr:occurrences x ⟨#[c]⟩ 0 x.length (x.length + 1)=(List.range' 0 (x.length + 1)).filter (Adk x c):=by
 rw [occ_eq]
 have:=Jp (x:=x) (c:=c) (x.length + 1) 0 (#[],0) (Zd_ _) (Zd_ _) (by omega)
 simpa using this
theorem Rt {a b k:Nat} (h:k∈(strSub x a b).cps.toList):∃i,a<=i/\i < b/\x.cps.toList[i]? = some k:=by
 rw [StrLaws.strSub_toList] at h
 obtain ⟨j,hj⟩:=List.getElem?_of_mem h
 rw [List.getElem?_take] at hj
 split at hj
 ·rw [List.getElem?_drop] at hj
  exact ⟨a + j,by omega,by omega,hj⟩
 ·cases hj
theorem Ff:∀{cuts:List Nat} {a f:Nat},ChainTo x ⟨#[c]⟩ x.length a cuts f->(∀i,a<=i->x.cps.toList[i]? = some c->i∈cuts)->∀p∈partsFrom x 1 a cuts,c∉p.cps.toList
 | [],a,f,_,h,p,hp=>by
  rw [Θs hp]
  intro hc
  obtain ⟨i,h1,_,h3⟩:=Rt hc
  exact absurd (h i h1 h3) Zi_
 | b :: r,a,f,hch,h,p,hp=>by
  have low:∀{r:List Nat} {a f:Nat},ChainTo x ⟨#[c]⟩ x.length a r f->∀i∈r,a<=i:=fun {r}=>by
   induction r with
   | nil=>exact fun _ i hi=>absurd hi Zi_
   | cons d r ih=>
    intro a f hc i hi
    rcases Zg_.mp hi with rfl | hi
    ·exact hc.1
    ·exact Zo_ hc.1 (Zo_ (Nat.le_add_right _ _) (ih hc.2.2 i hi))
  rcases Zg_.mp hp with rfl | hp
  ·intro hc
   obtain ⟨i,h1,h2,h3⟩:=Rt hc
   rcases Zg_.mp (h i h1 h3) with rfl | hi
   ·omega
   ·have:=low hch.2.2 i hi
    have e1:(⟨#[c]⟩:Str).length=1:=rfl
    omega
  ·refine Ff (cuts:=r) (a:=b + 1) hch.2.2 (fun i h1 h3=>?_) p hp
   rcases Zg_.mp (h i (by have:=hch.1; omega) h3) with rfl | hi
   ·omega
   ·exact hi
theorem Pk (hc:c < 256):∀p∈Txt.split x ⟨#[c]⟩,c∉p.cps.toList:=by
 intro p hp
 have k1:Builtin.Str.strKind ⟨#[c]⟩=1:=by
  unfold Builtin.Str.strKind
  rw [if_pos (by simpa using hc)]
 have k2:1<=Builtin.Str.strKind x:=by
  unfold Builtin.Str.strKind
  split
  ·exact Zd_ _
  ·split <;> decide
 have none:(occurrences x ⟨#[c]⟩ 0 x.length (x.length + 1)).isEmpty=true->c∉x.cps.toList:=fun h hm=>by
  obtain ⟨i,hi⟩:=List.getElem?_of_mem hm
  have hl:i < x.length:=by
   have:=(Ze_.mp hi).1
   simpa [Str.length] using this
  rw [Qr,List.isEmpty_iff] at h
  have:i∈(List.range' 0 (x.length + 1)).filter (Adk x c):=List.mem_filter.mpr ⟨by simp; omega,decide_eq_true hi⟩
  rw [h] at this
  exact absurd this Zi_
 unfold Txt.split at hp
 split at hp
 ·rename_i h
  rw [Θs hp]
  intro hm
  rw [Bool.or_eq_true,decide_eq_true_iff,decide_eq_true_iff] at h
  have e1:(⟨#[c]⟩:Str).length=1:=rfl
  rcases h with h | h
  ·obtain ⟨i,hi⟩:=List.getElem?_of_mem hm
   have:=(Ze_.mp hi).1
   have e2:x.cps.toList.length=x.length:=by simp [Str.length]
   omega
  ·omega
 ·split at hp
  ·rename_i h
   rw [Θs hp]
   exact none h
  ·obtain ⟨f,hch⟩:=occ_chain x ⟨#[c]⟩ (x.length + 1)
   rw [partsBetween_eq] at hp
   refine Ff (a:=0) hch (fun i _ h3=>?_) p hp
   rw [Qr]
   refine List.mem_filter.mpr ⟨?_,Zr_ h3⟩
   have:=(Ze_.mp h3).1
   have e2:x.cps.toList.length=x.length:=by simp [Str.length]
   simp
   omega
theorem Gd:Txt.split x ⟨#[c]⟩≠[]:=by
 unfold Txt.split
 split
 ·exact List.cons_ne_nil _ _
 ·split
  ·exact List.cons_ne_nil _ _
  ·rw [partsBetween_eq]
   obtain ⟨p,r,e⟩:=StrLaws.partsFrom_ne x (⟨#[c]⟩:Str).length 0 (occurrences x ⟨#[c]⟩ 0 x.length (x.length + 1))
   rw [e]
   exact List.cons_ne_nil _ _
theorem Cy:∀{p q A B:List Nat},p++c :: A=q++c :: B->c∉p->c∉q->p=q/\A=B
 | [],[],_,_,e,_,_=>⟨rfl,(List.cons.inj e).2⟩
 | [],b :: q,_,_,e,_,hq=>absurd (by rw [(List.cons.inj e).1]; exact Θc ..) hq
 | a :: p,[],_,_,e,hp,_=>absurd (by rw [<-(List.cons.inj e).1]; exact Θc ..) hp
 | a :: p,b :: q,A,B,e,hp,hq=>by
  obtain ⟨e1,e2⟩:=List.cons.inj e
  obtain ⟨h1,h2⟩:=Cy e2 (fun z=>hp (Θd _ z)) fun z=>hq (Θd _ z)
  exact ⟨by rw [e1,h1],h2⟩
theorem Ln:∀{ps qs:List Str},ps≠[]->qs≠[]->(∀p∈ps,c∉p.cps.toList)->(∀p∈qs,c∉p.cps.toList)->Str.join ⟨#[c]⟩ ps=Str.join ⟨#[c]⟩ qs->ps=qs
 | [],_,h,_,_,_,_=>absurd rfl h
 | _,[],_,h,_,_,_=>absurd rfl h
 | [p],[q],_,_,_,_,e=>by
  have e:p=q:=e
  rw [e]
 | [p],q :: q2 :: r,_,_,hp,_,e=>by
  have e:p=q++⟨#[c]⟩++Str.join ⟨#[c]⟩ (q2 :: r):=e
  refine absurd ?_ (hp p (List.mem_singleton.mpr rfl))
  rw [e]
  simp [Str.cps_append]
 | p :: p2 :: r,[q],_,_,_,hq,e=>by
  have e:p++⟨#[c]⟩++Str.join ⟨#[c]⟩ (p2 :: r)=q:=e
  refine absurd ?_ (hq q (List.mem_singleton.mpr rfl))
  rw [<-e]
  simp [Str.cps_append]
 | p :: p2 :: r,q :: q2 :: t,_,_,hp,hq,e=>by
  have e:p++⟨#[c]⟩++Str.join ⟨#[c]⟩ (p2 :: r)=q++⟨#[c]⟩++Str.join ⟨#[c]⟩ (q2 :: t):=e
  have e2:=congrArg (fun s:Str=>s.cps.toList) e
  simp only [Str.cps_append,Array.toList_append,List.append_assoc] at e2
  obtain ⟨h1,h2⟩:=Cy (c:=c) (p:=p.cps.toList) (q:=q.cps.toList) e2 (hp p (Θc ..)) (hq q (Θc ..))
  have ep:p=q:=Str.ext' (Array.toList_inj.mp h1)
  have er:=Ln (List.cons_ne_nil _ _) (List.cons_ne_nil _ _) (fun x hx=>hp x (Θd _ hx)) (fun x hx=>hq x (Θd _ hx)) (Str.ext' (Array.toList_inj.mp h2))
  rw [ep,er]
theorem I8 {ps:List Str} (hc:c < 256) (h0:ps≠[]) (h:∀p∈ps,c∉p.cps.toList):Txt.split (Str.join ⟨#[c]⟩ ps) ⟨#[c]⟩=ps:=
 Ln Gd h0 (Pk hc) h (join_split _ _)
theorem L0 (sep:Str) (ys:List Str):Txt.join sep ys=Str.join sep ys:=StrLaws.glued_eq_join sep ys
end
end L2
namespace L2
open PySem PySem.Spec PyProof.Rows
section
variable {X:Cx} {body hb:List Stmt} {b₀:Stmt} {tb:(St->Hp->Prop)->(St->XK)->St->Hp->Prop} {th:TS} {cx:Str} {c:Value} {cp hp pos:Pos}
end
noncomputable def noS:Str:=⟨#[]⟩
structure NM (nms:List Str):Prop where
 l1:1<=nms.length
 l7:nms.length<=7
 nd:nms.Nodup
 ne:∀n∈nms,n.cps.toList≠[]
 low:∀n∈nms,∀c∈n.cps.toList,97<=c/\c<=122
 len:∀n∈nms,n.length<=8
noncomputable def E6 (nms:List Str) (s:Nat):List Str:=(E1 s).map fun c=>nms.getD c noS
noncomputable def commaS:Str:=⟨#[44]⟩
noncomputable def dashS:Str:=⟨#[45]⟩
noncomputable def E2 (nms:List Str) (s:Nat):Str:=if s=0 then dashS else Str.join commaS (E6 nms s)
theorem Zw:∀s,s < 128->(E1 s).Pairwise (· < ·):=by decide +kernel
theorem Zv:∀k,k < 7->∀a,a < 2 ^ k->E1 (a|||2 ^ k)=E1 a++[k]:=by decide +kernel
section
variable {nms:List Str} {s:Nat}
theorem U6 (N:NM nms) (hs:s < 2 ^ nms.length) {c:Nat} (h:c∈E1 s):c < nms.length:=by
 have:=Gj N.l7
 exact Dv hs ((R1 (by omega) c).mp h)
theorem P7 (N:NM nms) (hs:s < 2 ^ nms.length):s < 128:=by
 have:=Gj N.l7
 omega
theorem G1 (h:s < nms.length):nms.getD s noS∈nms/\nms[s]? = some (nms.getD s noS):=by
 rw [Zu_,Θh h]
 exact ⟨List.getElem_mem h,rfl⟩
theorem Jo (N:NM nms) {a b:Nat} (ha:a < nms.length) (hb:b < nms.length) (e:nms.getD a noS=nms.getD b noS):a=b:=by
 have h1:=(G1 ha).2
 have h2:=(G1 hb).2
 rw [e,<-h2] at h1
 exact (List.getElem?_inj ha N.nd).mp h1
theorem N2 (N:NM nms) (hs:s < 2 ^ nms.length) {w:Str} (h:w∈E6 nms s):w∈nms:=by
 obtain ⟨c,hc,rfl⟩:=Θn h
 exact (G1 (U6 N hs hc)).1
theorem Abw (hs:s < 128) (h:s≠0):E6 nms s≠[]:=by
 obtain ⟨k,hk⟩:=Gr h
 intro z
 have:k∈E1 s:=(R1 hs k).mpr hk
 unfold E6 at z
 rw [List.map_eq_nil_iff] at z
 rw [z] at this
 exact absurd this Zi_
theorem Qq (N:NM nms) (hs:s < 2 ^ nms.length) {a i:Nat} {ws:List Str} {w:Str} (ha:a < 2 ^ nms.length) (e:ws=E6 nms s) (et:ws.take i=E6 nms a) (ew:ws[i]? = some w):∃k,k < nms.length/\w=nms.getD k noS/\a < 2 ^ k:=by
 rw [e] at ew et
 unfold E6 at ew et
 rw [Θg] at ew
 cases ek:(E1 s)[i]? with
 | none=>rw [ek] at ew; cases ew
 | some k=>
  rw [ek] at ew
  have hk:=U6 N hs (Θe ek)
  refine ⟨k,hk,(Θo ew).symm,?_⟩
  refine Nat.lt_pow_two_of_testBit _ fun j hj=>?_
  cases tj:a.testBit j with
  | false=>rfl
  | true=>
   exfalso
   have hja:j∈E1 a:=(R1 (P7 N ha) j).mpr tj
   have hjl:=U6 N ha hja
   have:nms.getD j noS∈((E1 s).map fun c=>nms.getD c noS).take i:=by rw [et]; exact Θm ⟨j,hja,rfl⟩
   rw [<-List.map_take] at this
   obtain ⟨j',hj',e'⟩:=Θn this
   have hj'l:=U6 N hs (List.mem_of_mem_take hj')
   obtain rfl:=Jo N hj'l hjl e'
   obtain ⟨q,hq⟩:=List.getElem?_of_mem hj'
   rw [List.getElem?_take] at hq
   split at hq
   ·rename_i hqi
    have pw:=Zw s (P7 N hs)
    rw [List.pairwise_iff_getElem] at pw
    obtain ⟨l1,e1⟩:=Ze_.mp hq
    obtain ⟨l2,e2⟩:=Ze_.mp ek
    have:=pw q i l1 l2 hqi
    rw [e1,e2] at this
    omega
   ·cases hq
theorem Abx (N:NM nms) {a k:Nat} (hk:k < nms.length) (ha:a < 2 ^ k):E6 nms (a|||2 ^ k)=E6 nms a++[nms.getD k noS]:=by
 unfold E6
 rw [Zv k (by have:=N.l7; omega) a ha,Zw_]
 rfl
theorem Jj (N:NM nms) {a b:Nat} (ha:a < 2 ^ nms.length) (hb:b < 2 ^ nms.length) (e:E6 nms a=E6 nms b):a=b:=by
 have half:∀{a b:Nat},a < 2 ^ nms.length->b < 2 ^ nms.length->E6 nms a=E6 nms b->∀c,G4 a c->G4 b c:=fun {a b} ha hb e c hc=>by
  have h1:c∈E1 a:=(R1 (P7 N ha) c).mpr hc
  have:nms.getD c noS∈E6 nms b:=by rw [<-e]; exact Θm ⟨c,h1,rfl⟩
  obtain ⟨c',h2,e2⟩:=Θn this
  obtain rfl:=Jo N (U6 N hb h2) (U6 N ha h1) e2
  exact (R1 (P7 N hb) _).mp h2
 exact Zt fun c=>⟨half ha hb e c,half hb ha e.symm c⟩
noncomputable def okC (c:Nat):Prop:=c=44\/97<=c/\c<=122
theorem Ev:∀{ps:List Str},(∀p∈ps,∀c∈p.cps.toList,okC c)->∀c∈(Str.join commaS ps).cps.toList,okC c
 | [],_,c,hc=>by cases hc
 | [p],h,c,hc=>h p (List.mem_singleton.mpr rfl) c hc
 | p :: q :: r,h,c,hc=>by
  have e:Str.join commaS (p :: q :: r)=p++commaS++Str.join commaS (q :: r):=rfl
  rw [e,Str.cps_append,Str.cps_append,Array.toList_append,Array.toList_append] at hc
  rcases Θa hc with hc | hc
  ·rcases Θa hc with hc | hc
   ·exact h p (Θc ..) c hc
   ·exact .inl (Θs hc)
  ·exact Ev (fun x hx=>h x (Θd _ hx)) c hc
theorem Acq (N:NM nms) {n:Str} (h:n∈nms):∀c∈n.cps.toList,okC c:=fun c hc=>.inr (N.low n h c hc)
theorem Bb (N:NM nms) {n:Str} (h:n∈nms):44∉n.cps.toList:=fun z=>by
 have:=N.low n h 44 z
 omega
theorem Dm (N:NM nms) (hs:s < 2 ^ nms.length) {t:Str} (e:Txt.split t commaS=E6 nms s):∀c∈t.cps.toList,okC c:=by
 have h1:Str.join commaS (Txt.split t commaS)=t:=StrLaws.join_split t commaS
 rw [e] at h1
 rw [<-h1]
 exact Ev fun p hp=>Acq N (N2 N hs hp)
theorem X0 {ps:List Str} (h0:ps≠[]) (h:∀p∈ps,44∉p.cps.toList):Txt.split (Str.join commaS ps) commaS=ps:=I8 (c:=44) (by decide) h0 h
theorem Af (N:NM nms) (hs:s < 2 ^ nms.length) (h0:s≠0):Txt.split (Str.join commaS (E6 nms s)) commaS=E6 nms s:=
 I8 (c:=44) (by decide) (Abw (P7 N hs) h0) fun p hp=>Bb N (N2 N hs hp)
noncomputable def O6 (nms:List Str) (t:Str):Prop:=t≠dashS/\∀s,s < 2 ^ nms.length->Txt.split t commaS≠E6 nms s
theorem Eh (N:NM nms) {t:Str} (hd:t≠dashS) {c:Nat} (h:c∈t.cps.toList) (hc:¬okC c):O6 nms t:=⟨hd,fun s hs e=>hc (Dm N hs e c h)⟩
theorem X7 (N:NM nms) {ps:List Str} (h0:ps≠[]) (hf:∀p∈ps,44∉p.cps.toList) (hd:Str.join commaS ps≠dashS) {w:Str} (hw:w∈ps) (no:w∉nms):O6 nms (Str.join commaS ps):=
 ⟨hd,fun s hs e=>no (N2 N hs (by rw [<-e,X0 h0 hf]; exact hw))⟩
theorem Zs (N:NM nms) {i j:Nat} (hi:i < nms.length) (hj:j < nms.length) (h:j<=i):O6 nms (Str.join commaS [nms.getD i noS,nms.getD j noS]):=by
 have mi:=(G1 hi).1
 have mj:=(G1 hj).1
 have hf:∀p∈[nms.getD i noS,nms.getD j noS],44∉p.cps.toList:=fun p hp=>by
  rcases Zg_.mp hp with rfl | hp
  ·exact Bb N mi
  ·rw [Θs hp]; exact Bb N mj
 refine ⟨fun e=>?_,fun s hs e=>?_⟩
 ·have:(44:Nat)∈dashS.cps.toList:=by
   rw [<-e]
   show 44∈((nms.getD i noS++commaS++nms.getD j noS:Str)).cps.toList
   simp [Str.cps_append,commaS]
  cases this with | tail _ h=>cases h
 ·rw [X0 (List.cons_ne_nil _ _) hf] at e
  obtain ⟨k,hk,ek,hlt⟩:=Qq (a:=2 ^ i) (i:=1) N hs (Nat.pow_lt_pow_right (by decide) hi) e (by
   have:E6 nms (2 ^ i)=[nms.getD i noS]:=by
    have:=Abx (a:=0) N hi (Nat.two_pow_pos i)
    rw [Nat.zero_or] at this
    rw [this]
    rfl
   rw [this]; rfl) rfl
  have:=Jo N hj hk ek
  subst this
  have h2:2 ^ j<=2 ^ i:=Nat.pow_le_pow_right (by decide) h
  omega
end
section
variable {X:Cx}
end
section
variable {X:Cx} {K:Θf} {pins:List (Addr × Obj)} {σ:St} {H:Hp} {s:Shared}
end
noncomputable def Em (ns:List Int) (k:Nat):Nat:=(ns.getD k 0 % 2147483629).toNat
noncomputable def An (ns:List Int) (k:Nat):Nat:=if k < ns.length then Em ns k else if 0 < ns.length then ((k * k * 48271 + 11 + Em ns (k % ns.length) * 69621) * (k * k * 48271 + 11 + Em ns (k % ns.length) * 69621)) % 2147483629 else ((k * k * 48271 + 11) * (k * k * 48271 + 11)) % 2147483629
theorem Kz {ns:List Int} {k c:Nat} (hk:k < ns.length) (e:ns[k] % 2147483629=(c:Int)):Em ns k=c:=by
 unfold Em
 rw [Zu_,Θh hk]
 show (ns[k] % 2147483629).toNat=c
 rw [e,Int.toNat_natCast]
theorem Vb (ns:List Int) (k:Nat):An ns k < 2147483629:=by
 unfold An
 split
 ·unfold Em
  have h1:=Int.emod_lt_of_pos (ns.getD k 0) (show (0:Int) < 2147483629 by decide)
  have h2:=Int.emod_nonneg (ns.getD k 0) (show (2147483629:Int)≠0 by decide)
  omega
 ·split
  ·exact Nat.mod_lt _ (by decide)
  ·exact Nat.mod_lt _ (by decide)
noncomputable def Rg (K:Θf):Sp:=fun vs H Q _=>∃(sc:Addr) (ns:List Int) (k:Nat),vs=[.ref sc,vN k]/\SqL K H sc (ns.map V.int)/\k<=1000/\Q (vN (An ns k)) H
theorem Si {K:Θf} (vs:List V) (H:Hp) (Q:VK) (E:XK) (h:Bp K vs H Q E):Rg K vs H Q E:=by
 obtain ⟨sc,ns,k,e,hS,hk,q⟩:=h
 exact ⟨sc,ns,k,e,hS,hk,q _ (Vb ns k)⟩
section
variable {X:Cx} {body hb:List Stmt} {b₀:Stmt} {tb:(St->Hp->Prop)->(St->XK)->St->Hp->Prop} {th:TS} {cx n:Str} {c:Value} {cp hp pos:Pos} {l:Nat}
noncomputable def Abp (K:Θf) (c:Value) (l:Nat) (tb:(St->Hp->Prop)->(St->XK)->St->Hp->Prop) (th:TS):TS:=fun D σ H=>
 tb D.nx (fun σ' cls _ H2=>∃C,cls = .ref C/\PySem.W.exmOne K (.ref C) c=some true/\∀ea,H2 ea=none->th { nx:=fun σ2 H3=>D.nx (σ2.set l none) H3,rt:=fun _ _=>False } (σ'.set l (some (.ref ea))) (upd H2 ea (Je ea C))) σ H
theorem Tw (hb':Ad9 X body tb) (hh:∀ea,PSs (X.within ea) (b₀ :: hb) th) (hg:Gl X cx) (hm:X.mg cx=some c) (hst:X.stack=X.env :: X.outer) (hfr:X.env.frame=some X.env.locals) (hN:X.N.Nodup)
  (hl:X.N[l]? = some n) (hnl:X.env.scope.names.lookup n=some .local) (hdb:(cx == ("__debug__":Str))=false:=by decide) :
  PS X (.Try body [.ExceptHandler (some (.Name cx cp)) (some n) (b₀ :: hb) hp] [] [] pos) (Abp X.K c l tb th):=by
 intro pins s σ H D I h
 refine wpAny_Try_except (wpAny_mono (hb' pins s σ H _ _ I h) (fun f s1 q=>?_) fun e s1 q=>?_)
 ·obtain ⟨rfl,σ',H',I',q⟩:=q
  exact wpAny_execs_nil ⟨σ',H',I',q⟩
 ·obtain ⟨σ',H1,s2,I1,ea,C,B,H',rfl,F,C',ec,hex,q⟩:=q
  obtain rfl:C=C':=by injection ec
  obtain ⟨a0,fl⟩:=F.fly
  have hframes:X.A.frames=some (X.env :: X.outer):=by rw [<-hst]; exact I1.ok.frames
  have fl':=fl
  rw [hst] at fl'
  refine wpAny_looks_onW hframes hfr fl' fun h4 held sm4=>?_
  refine wpAny_landsW held fun h5 fl5 sm5=>?_
  rw [<-hst] at fl5
  have J5:=F.landed I1 fl5 (sm4.trans sm5)
  refine wpAny_handleBy_cons (codeAny_handlers_test ?_) (by intro q; cases q)
  refine Calls.Name_function_global J5.ok.kind hg (Calls.loadGlobal_global (by rw [J5.ok.glob]; exact J5.mod.glob.keeps J5.bk) hm ?_) hdb
  obtain ⟨ob,hob,hobc⟩:=fl5.there
  have LT:PySem.W.Looks (model X.prog X.w) h5 (typeOf (.ref ea)) (.ref C):=hobc ▸ (PySem.W.Looks.ld hob).andThen .now
  refine (PySem.W.exm_one J5.kIn LT hex).here ?_
  refine codeAny_handlers_suite_as ?_
  refine lands_againW fl5 fun h6 fl6 sm6=>?_
  have J6:=F.landed I1 fl6 ((sm4.trans sm5).trans sm6)
  refine X3 (v:=.ref ea) J6 hN hl (.inl hnl) rfl (fun s7 J7=>?_) (.inr hnl)
  refine wpAny_mono (hh ea pins s7 _ _ { nx:=fun σ2 H3=>D.nx (σ2.set l none) H3,rt:=fun _ _=>False } (J7.inS ea) (q ea F.fresh)) (fun f s8 q8=>?_) fun _ _ z=>z.elim
  cases f with
  | next=>
   obtain ⟨σ2,H2,J8,q9⟩:=q8
   have J8:=J8.outS I.ok.hd
   exact J8.goes hN hl hnl fun s9 J9=>⟨_,_,J9,q9⟩
  | ret v=>obtain ⟨_,_,_,_,_,z⟩:=q8; exact z.elim
  | brk=>obtain ⟨_,_,_,z⟩:=q8; exact z.elim
  | cont=>obtain ⟨_,_,_,z⟩:=q8; exact z.elim
end
theorem Qn {sep:Str} {ys:List Str} (h:(ys.map (·.length)).sum + ys.length * sep.length<=1000):JoinOk sep ys=true:=by
 unfold JoinOk
 rw [Bool.not_eq_true']
 show decide (_ > sizeLine)=false
 rw [StrLaws.joinTotal,decide_eq_false]
 have:=sizeLine_eq
 omega
theorem Ai {ys:List Str} {d:Nat} (h:∀y∈ys,y.length<=d):(ys.map (·.length)).sum<=ys.length * d:=by
 induction ys with
 | nil=>simp
 | cons y ys ih=>
  rw [List.map_cons,List.sum_cons,ZA,Nat.succ_mul]
  have h1:=h y (Θc ..)
  have h2:=ih fun z hz=>h z (Θd _ hz)
  omega
theorem Db:∀ps:List Str,ps.length<=(Str.join commaS ps).length + 1
 | []=>by simp
 | [p]=>by simp
 | p :: q :: r=>by
  have e:Str.join commaS (p :: q :: r)=p++commaS++Str.join commaS (q :: r):=rfl
  have h:=Db (q :: r)
  rw [e,Str.length_append,Str.length_append]
  have:commaS.length=1:=rfl
  simp only [List.length_cons] at h ⊢
  omega
theorem Uh (t:Str):(Txt.split t commaS).length<=t.length + 1:=by
 have h1:Str.join commaS (Txt.split t commaS)=t:=StrLaws.join_split t commaS
 have:=Db (Txt.split t commaS)
 rw [h1] at this
 exact this
section
variable {nms:List Str} {s:Nat}
theorem Q4 (N:NM nms) (hs:s < 2 ^ nms.length):(E6 nms s).length<=7:=by
 unfold E6
 rw [Θl]
 have:∀s,s < 128->(E1 s).length<=7:=by decide +kernel
 exact this s (P7 N hs)
theorem Wk (N:NM nms) (hs:s < 2 ^ nms.length):JoinOk commaS (E6 nms s)=true:=by
 have h1:=Q4 N hs
 have h2:=Ai (d:=8) fun y hy=>N.len y (N2 N hs hy)
 refine Qn ?_
 have e:commaS.length=1:=rfl
 rw [e]
 omega
theorem L8 (N:NM nms) (hs:s < 2 ^ nms.length):(E2 nms s).length<=70:=by
 unfold E2
 split
 ·decide
 ·have h1:=Q4 N hs
  have h2:=Ai (d:=8) fun y hy=>N.len y (N2 N hs hy)
  have h3:=StrLaws.join_length_le commaS (E6 nms s)
  have e:commaS.length=1:=rfl
  rw [e] at h3
  omega
theorem Vu:∀n,n < 8->∀s,s < 2 ^ n->(List.range n).filter (Jg s)=E1 s:=by decide +kernel
end
noncomputable def NAt (K:Θf) (H:Hp) (np:Addr) (nms:List Str):Prop:=SqL K H np (nms.map V.str)
noncomputable def Ag (K:Θf):Sp:=fun vs H Q _=>∃(np wp:Addr) (nms ws:List Str),vs=[.ref np,.ref wp]/\NAt K H np nms/\NM nms/\SqL K H wp (ws.map V.str)/\ws.length<=1000/\
 (∀s,s < 2 ^ nms.length->ws=E6 nms s->Q (vN s) H)/\((∀s,s < 2 ^ nms.length->ws≠E6 nms s)->Q .non H)
noncomputable def Q9 (K:Θf):Sp:=fun vs H Q _=>∃(np:Addr) (nms:List Str) (s:Nat),vs=[.ref np,vN s]/\NAt K H np nms/\NM nms/\s < 2 ^ nms.length/\∀(l:Addr) (H':Hp),Same H H'->H l=none->H' l=some (.lst ((E6 nms s).map V.str))->Q (.ref l) H'
noncomputable def Y8 (K:Θf):Sp:=fun vs H Q _=>∃(np:Addr) (nms:List Str) (s:Nat),vs=[.ref np,vN s]/\NAt K H np nms/\NM nms/\s < 2 ^ nms.length/\∀H',Same H H'->Q (.str (E2 nms s)) H'
noncomputable def Ih (K:Θf) (CT:Addr):Sp:=fun vs H Q E=>∃(np:Addr) (nms:List Str) (t:Str),vs=[.ref np,.str t]/\NAt K H np nms/\NM nms/\t.length<=300/\(∀c∈t.cps.toList,c < 256)/\
 (t=dashS->Q (vN 0) H)/\(∀s H',Same H H'->t≠dashS->s < 2 ^ nms.length->Txt.split t commaS=E6 nms s->Q (vN s) H')/\(O6 nms t->∀H',Same H H'->E (.ref CT) none H')
theorem Aq (l:List Str):(l.map V.str).all Ap=true:=by
 rw [List.all_map,List.all_eq_true]
 exact fun _ _=>rfl
theorem Av {x:Str} {l:List Str}:inV (.str x) (l.map V.str)=decide (x∈l):=by
 unfold inV
 rw [List.any_map,Bool.eq_iff_iff,List.any_eq_true,decide_eq_true_iff]
 constructor
 ·rintro ⟨y,hy,e⟩
  have e:(y == x)=true:=e
  rw [<-eq_of_beq e]
  exact hy
 ·intro h
  exact ⟨x,h,beq_self_eq_true x⟩
section
variable {X:Cx} {K:Θf}
theorem Sw (hK:X.K=K):MtR X "list.index" (fun x vs H Q=>∃(p:Addr) (l:List Str) (k:Nat),x = .ref p/\SqL K H p (l.map V.str)/\l.length<=1000/\l.Nodup/\k < l.length/\vs=[.str (l.getD k noS)]/\Q (vN k) H):=by
 subst hK
 intro pins s σ H x vs v us Q I rx rv h
 obtain ⟨p,l,k,rfl,hq,hl,nd,hk,rfl,q⟩:=h
 cases rx
 obtain ⟨u,rfl,ru⟩:=Vals.one rv
 obtain ⟨its,r,pl,hz⟩:=I.list hq
 obtain ⟨⟨c,d,dt,sl⟩,n,e,h1,h2,h3⟩:=pl
 obtain rfl:c=_:=h1
 obtain rfl:d=_:=h2
 obtain rfl:dt=_:=h3
 have len:its.length=l.length:=by rw [<-r.length,Θl]
 have at_:∀j (hj:j < its.toArray.size),eqU (.str (l.getD k noS)) its.toArray[j]=decide (l.getD j noS=l.getD k noS):=fun j hj=>by
  have hj':j < l.length:=by rw [<-len]; simpa using hj
  obtain ⟨w,hw,rw'⟩:=r.get (i:=j) (x:=V.str l[j]) (by rw [Θg,Θh hj']; rfl)
  have:its.toArray[j]=w:=by
   rw [Θh (by simpa using hj)] at hw
   simpa using hw
  have ej:l.getD j noS=l[j]:=by rw [Zu_,Θh hj']; rfl
  rw [this,Nm rw' rfl,ej]
  show (l[j] == l.getD k noS)=decide (l[j]=l.getD k noS)
  rw [Bool.eq_iff_iff,beq_iff_eq,decide_eq_true_iff]
 refine call_meets F.slot_list_index ⟨_,e,rfl⟩ F.entry_list_index (F.args_list_index_2 _ _) (SeqAt.list_indexAt p its.toArray n none sl u (eqU (.str (l.getD k noS))) k (by rw [Zx_,len]; exact hk) (by omega) ?_ fun m hm hlt=>?_)
  ⟨e,fun y hy=>T7 ru rfl r (Aq l) y (by simpa using hy),⟨vN k,H,I.tok _,⟨_,rfl⟩,q⟩⟩
 ·rw [at_,decide_eq_true_iff]
 ·rw [at_,decide_eq_false_iff_not]
  intro z
  have hm':m < l.length:=by rw [<-len]; simpa using hm
  have e1:l.getD m noS=l[m]:=by rw [Zu_,Θh hm']; rfl
  have e2:l.getD k noS=l[k]:=by rw [Zu_,Θh hk]; rfl
  have h1:l[m]? = l[k]?:=by rw [Θh hm',Θh hk,<-e1,<-e2,z]
  have:=(List.getElem?_inj hm' nd).mp h1
  omega
end
noncomputable def sng (c:Nat):Str:=⟨#[c]⟩
noncomputable def letS:Str:="abcdefghijklmnopqrstuvwxyz"
theorem Nw:∀i,i < 26->letS.cps.toList[i]? = some (97 + i):=by decide +kernel
theorem Ew:∀l:List Nat,Str.join noS (l.map sng)=⟨l.toArray⟩
 | []=>rfl
 | [c]=>rfl
 | c :: d :: r=>by
  have h:=Ew (d :: r)
  have e:Str.join noS ((c :: d :: r).map sng)=sng c++noS++Str.join noS ((d :: r).map sng):=rfl
  rw [e,h]
  apply congrArg Str.mk
  show (#[c]++#[])++(d :: r).toArray=(c :: d :: r).toArray
  simp
theorem Ys (l:List Nat) (h:l.length<=100):JoinOk noS (l.map sng)=true:=by
 refine Qn ?_
 have h2:=Ai (d:=1) (ys:=l.map sng) fun y hy=>by
  obtain ⟨c,_,rfl⟩:=Θn hy
  exact Zd_ _
 have e:noS.length=0:=rfl
 rw [Θl] at h2 ⊢
 rw [e]
 omega
noncomputable def Vc (l:List Str):Bool:=decide (1<=l.length) && decide (l.length<=7) && decide l.Nodup && l.all fun n=>!n.cps.toList.isEmpty && n.cps.toList.all (fun c=>decide (97<=c) && decide (c<=122)) && decide (n.length<=8)
theorem Acb {l:List Str} (h:Vc l=true):NM l:=by
 unfold Vc at h
 simp only [Bool.and_eq_true,decide_eq_true_iff,List.all_eq_true,Bool.not_eq_true',List.isEmpty_eq_false_iff] at h
 obtain ⟨⟨⟨h1,h2⟩,h3⟩,h4⟩:=h
 exact ⟨h1,h2,h3,fun n hn=>(h4 n hn).1.1,fun n hn c hc=>(h4 n hn).1.2 c hc,fun n hn=>(h4 n hn).2⟩
noncomputable def Bd (r:Nat):List Nat:=(List.range 8).map fun j=>97 + (r + 3 * j) % 26
noncomputable def Tb (r:Nat):Str:=⟨(Bd r).toArray⟩
noncomputable def Gi (r n:Nat):List Str:=(List.range n).map fun k=>Txt.slice (Tb r) (some ((k % 5:Nat):Int)) (some ((k % 5 + 1 + k / 5:Nat):Int))
theorem Act:∀r,r < 26->∀n,n < 8->1<=n->Vc (Gi r n)=true:=by decide +kernel
noncomputable def evB (c size:Nat):List Nat:=(List.range size).map fun j=>97 + (c / (j + 1) + j * j) % 26
noncomputable def evL (c size at_ k:Nat):List Nat:=(evB c size).set at_ (97 + (c / 96 + k) % 26)
noncomputable def evS (c size at_ k:Nat):Str:=⟨(evL c size at_ k).toArray⟩
noncomputable def evN (c size at_ n:Nat):List Str:=(List.range n).map (evS c size at_)
theorem Jc (c size at_ k:Nat):(evL c size at_ k).length=size:=by unfold evL evB; rw [List.length_set,Θl,List.length_range]
theorem Aei {c size at_ n:Nat} (h:at_ < size) (hs:size<=8) (h1:1<=n) (h7:n<=7):NM (evN c size at_ n):=by
 have ln:(evN c size at_ n).length=n:=by unfold evN; rw [Θl,List.length_range]
 have low:∀k,∀x∈evL c size at_ k,97<=x/\x<=122:=fun k x hx=>by
  unfold evL at hx
  rcases List.mem_or_eq_of_mem_set hx with hx | rfl
  ·obtain ⟨j,_,rfl⟩:=Θn hx
   omega
  ·omega
 have mem:∀x∈evN c size at_ n,∃k,x=evS c size at_ k:=fun x hx=>by
  obtain ⟨k,_,rfl⟩:=Θn hx
  exact ⟨k,rfl⟩
 have tl:∀k,(evS c size at_ k).cps.toList=evL c size at_ k:=fun k=>List.toList_toArray ..
 refine ⟨by omega,by omega,?_,fun x hx=>?_,fun x hx=>?_,fun x hx=>?_⟩
 ·unfold evN
  refine List.pairwise_map.mpr (List.Pairwise.imp_of_mem (fun {a b} ha hb (hab:a < b) e=>?_) (List.pairwise_lt_range))
  have ha:=List.mem_range.mp ha
  have hb:=List.mem_range.mp hb
  have e2:evL c size at_ a=evL c size at_ b:=by rw [<-tl,<-tl,e]
  have g:∀k,(evL c size at_ k)[at_]? = some (97 + (c / 96 + k) % 26):=fun k=>by
   unfold evL
   rw [List.getElem?_set_self (by unfold evB; rw [Θl,List.length_range]; exact h)]
  have e3:=g a
  rw [e2,g b] at e3
  have:=Θo e3
  omega
 ·obtain ⟨k,rfl⟩:=mem x hx
  rw [tl]
  intro z
  have:=Jc c size at_ k
  rw [z] at this
  simp at this
  omega
 ·obtain ⟨k,rfl⟩:=mem x hx
  rw [tl]
  exact low k
 ·obtain ⟨k,rfl⟩:=mem x hx
  show (evL c size at_ k).toArray.size<=8
  rw [Zx_,Jc]
  exact hs
section
variable {nms:List Str} {s:Nat}
theorem Abz {a b:Str} {c:Nat} (h:c∈a.cps.toList):c∈(a++b).cps.toList:=by
 rw [Str.cps_append,Array.toList_append]
 exact Zt_ _ h
theorem Aes {a b:Str} {c:Nat} (h:c∈b.cps.toList):c∈(a++b).cps.toList:=by
 rw [Str.cps_append,Array.toList_append]
 exact Zh_ _ h
theorem Ma (N:NM nms):noS∉nms:=fun h=>N.ne noS h rfl
theorem Cg (N:NM nms) (hs:s < 2 ^ nms.length):∀p∈E6 nms s,∀c∈p.cps.toList,97<=c/\c<=122:=fun p hp=>N.low p (N2 N hs hp)
end
theorem Km (a b:Str):same (PyData.str a) (PyData.str b)=decide (a=b):=by
 simp only [same]
 rw [Bool.eq_iff_iff]; simp
theorem Fa (a b:Str):SeqAt.noMix (PyData.str a) (PyData.str b)=true:=by simp [SeqAt.noMix]
theorem Sh {a:Str} (h:∀c∈a.cps.toList,c < 256):PyData.canLay0 (PyData.str a)=true:=by
 simp only [PyData.canLay0]
 unfold PyData.strOk
 rw [<-Array.all_toList,List.all_eq_true]
 intro c hc
 have:=h c hc
 exact Zr_ (by omega)
theorem Cw:∀ws:List Str,(∀w∈ws,∀c∈w.cps.toList,c < 256)->PyData.canLayAll0 (ws.map PyData.str)=true
 | [],_=>by simp [PyData.canLayAll0]
 | x :: xs,h=>by
  have h1:=Sh (h x (Θc ..))
  have h2:=Cw xs fun w hw=>h w (Θd _ hw)
  simp only [List.map_cons,PyData.canLayAll0]
  rw [h1,h2]; rfl
theorem Vh (a:Str):PyData.depth (PyData.str a)<=10:=by simp [PyData.depth]
theorem N9 {ws:List Str} (h:∀w∈ws,∀c∈w.cps.toList,c < 256):SeqAt.shaped (.list (ws.map PyData.str))=true:=by
 have h2:PyData.depth (.list (ws.map PyData.str))<=64:=by
  have:=Ao Vh ws
  simp only [PyData.depth]
  omega
 show (PyData.canLay0 (.list (ws.map PyData.str)) && decide (PyData.depth (.list (ws.map PyData.str))<=64))=true
 rw [Bool.and_eq_true]
 exact ⟨by simp only [PyData.canLay0]; exact Cw ws h,decide_eq_true h2⟩
theorem Bt {K:Θf} {H:Hp}:∀ws:List Str,DVs K H (ws.map V.str) (ws.map PyData.str)
 | []=>.nil
 | w :: ws=>.cons (.str _) (Bt ws)
section
variable {nms:List Str} {s:Nat}
end
theorem Same.over {H H':Hp} {p:Addr} {o:HO} (s:Same H H') (h:H p=Option.none):Same H (upd H' p o):=fun a x hx=>by
 rw [C8 (fun z=>by rw [z,h] at hx; cases hx)]
 exact s a x hx
theorem Oo {X:Cx} {K:Θf} (h:X.K=K):OpR X (compareOp .NotIn) (rIn K true):=h ▸ V0
theorem Aab {n j:Nat} (h:j < n):ixN n (j:Int)=some j:=by
 unfold ixN
 rw [if_pos (by omega),if_pos (by omega)]; simp
theorem Ez:letS.length<=sizeLine:=by rw [sizeLine_eq]; decide
theorem rg2 {n i:Nat} (h:i < n):(List.range n)[i]? = some i:=by rw [Θh (by rw [List.length_range]; exact h),List.getElem_range]
theorem Aak {r i:Nat} (h:i < 8):(Bd r)[i]? = some (97 + (r + 3 * i) % 26):=by
 unfold Bd
 rw [Θg,rg2 h]; rfl
theorem Acg {c size i:Nat} (h:i < size):(evB c size)[i]? = some (97 + (c / (i + 1) + i * i) % 26):=by
 unfold evB
 rw [Θg,rg2 h]; rfl
theorem Ta (r i:Nat):Gi r (i + 1)=Gi r i++[Txt.slice (Tb r) (some ((i % 5:Nat):Int)) (some ((i % 5 + 1 + i / 5:Nat):Int))]:=by
 unfold Gi
 rw [List.range_succ,Zw_]; rfl
theorem Vk (c size at_ i:Nat):evN c size at_ (i + 1)=evN c size at_ i++[evS c size at_ i]:=by
 unfold evN
 rw [List.range_succ,Zw_]; rfl
theorem Aaf {l:List Str} (h:0 < l.length):atI (l.map V.str) (-1)=some (V.str (l.getD (l.length - 1) noS)):=by
 have e:l=l.dropLast++[l.getD (l.length - 1) noS]:=by
  conv=>lhs; rw [<-List.dropLast_concat_getLast (fun z:l=[]=>by rw [z] at h; exact absurd h (by decide))]
  congr 2
  rw [Zu_,Θh (by omega),List.getLast_eq_getElem]; rfl
 have e2:l.map V.str=l.dropLast.map V.str++[V.str (l.getD (l.length - 1) noS)]:=by
  conv=>lhs; rw [e]
  rw [Zw_]; rfl
 rw [e2]
 exact Ux _ _
end L2
namespace L2
open PySem PySem.W PyProof.Rows
namespace ST
section
variable {lt:Nat->Nat->Bool}
section
variable {N:Nat} (h0:0 < N)
include h0
end
end
end ST
end L2
namespace L2
open PySem PySem.W PyProof.Rows
namespace ST
section
variable {prog:Program} {w:World} {A:Around} {E:Value->Shared->Prop} {s:Shared}
end
end ST
end L2
namespace L2
open PySem PySem.W PyProof.Rows
namespace SR
structure TO (L:Keyed->Keyed->Bool):Prop where
 as_:∀{x y},L x y=true->L y x=false
 tr:∀{x y z},L y x=false->L z y=false->L z x=false
section
variable {prog:Program} {w:World} {A:Around} {E:Value->Shared->Prop} {s:Shared} {κ:SortKind} {U:Keyed->Prop} {L:Keyed->Keyed->Bool}
end
end SR
end L2
namespace L2
open PySem PySem.W PyProof.Rows
namespace SR
section
variable {L:Keyed->Keyed->Bool} {la lb out ro:List Keyed} {ia ib na nb k:Nat}
noncomputable abbrev Le (L:Keyed->Keyed->Bool) (x y:Keyed):Prop:=L y x=false
noncomputable abbrev Inc (L:Keyed->Keyed->Bool) (l:List Keyed):Prop:=l.Pairwise (Le L)
theorem Le.trans (O:TO L) {x y z:Keyed} (h:Le L x y) (g:Le L y z):Le L x z:=O.tr h g
theorem Inc.le (S:Inc L la) {i j:Nat} {x y:Keyed} (hi:la[i]? = some x) (hj:la[j]? = some y) (h:i < j):Le L x y:=by
 obtain ⟨h1,e1⟩:=Ze_.mp hi
 obtain ⟨h2,e2⟩:=Ze_.mp hj
 have:=List.pairwise_iff_getElem.mp S i j h1 h2 h
 rw [e1,e2] at this
 exact this
theorem irr (O:TO L) (x:Keyed):Le L x x:=by
 show L x x=false
 cases c:L x x with
 | false=>rfl
 | true=>have:=O.as_ c; rw [c] at this; exact this
theorem Inc.le' (O:TO L) (S:Inc L la) {i j:Nat} {x y:Keyed} (hi:la[i]? = some x) (hj:la[j]? = some y) (h:i<=j):Le L x y:=by
 rcases Nat.lt_or_ge i j with c | c
 ·exact S.le hi hj c
 ·have:i=j:=by omega
  subst this
  rw [hi] at hj
  cases hj
  exact irr O x
theorem Lw {l:List Keyed} {i:Nat} {y:Keyed} (h:y∈l.drop i):∃j,i<=j/\l[j]? = some y:=by
 obtain ⟨j,hj⟩:=List.mem_iff_getElem?.mp h
 rw [List.getElem?_drop] at hj
 exact ⟨i + j,by omega,hj⟩
theorem Lx {l:List Keyed} {n:Nat} {y:Keyed} (h:y∈l.take n):∃j,j < n/\l[j]? = some y:=by
 obtain ⟨j,hj⟩:=List.mem_iff_getElem?.mp h
 rw [List.getElem?_take] at hj
 split at hj
 ·exact ⟨j,by assumption,hj⟩
 ·cases hj
structure LI (L:Keyed->Keyed->Bool) (la lb out:List Keyed) (ia ib:Nat):Prop where
 perm:out.Perm (la.take ia++lb.take ib)
 srt:Inc L out
 ha:∀x∈out,∀y∈la.drop ia,Le L x y
 hb:∀x∈out,∀y∈lb.drop ib,Le L x y
theorem LI.swap (I:LI L la lb out ia ib):LI L lb la out ib ia:=⟨I.perm.trans List.perm_append_comm,I.srt,I.hb,I.ha⟩
theorem LI.take (Sa:Inc L la) (I:LI L la lb out ia ib) (k:Nat) (h:∀x∈(la.drop ia).take k,∀y∈lb.drop ib,Le L x y):LI L la lb (out++(la.drop ia).take k) (ia + k) ib:=by
 have sd:Inc L (la.drop ia):=List.Pairwise.sublist (List.drop_sublist ..) Sa
 have sc:Inc L ((la.drop ia).take k++(la.drop ia).drop k):=by rw [List.take_append_drop]; exact sd
 have sp:=List.pairwise_append.mp sc
 refine ⟨?_,List.pairwise_append.mpr ⟨I.srt,sp.1,fun x hx y hy=>I.ha x hx y (List.mem_of_mem_take hy)⟩,fun x hx y hy=>?_,fun x hx y hy=>?_⟩
 ·rw [List.take_add]
  refine (I.perm.append_right _).trans ?_
  rw [Zy_,Zy_]
  exact List.Perm.append_left _ List.perm_append_comm
 ·rw [<-List.drop_drop] at hy
  rcases Θa hx with hx | hx
  ·exact I.ha x hx y (List.mem_of_mem_drop hy)
  ·exact sp.2.2 x hx y hy
 ·rcases Θa hx with hx | hx
  ·exact I.hb x hx y hy
  ·exact h x hx y hy
theorem LI.fin (Sa:Inc L la) (Sb:Inc L lb) (I:LI L la lb out ia ib) (h:∀x∈la.drop ia,∀y∈lb.drop ib,Le L x y):(out++la.drop ia++lb.drop ib).Perm (la++lb)/\Inc L (out++la.drop ia++lb.drop ib):=by
 have J:=I.take Sa (la.length - ia) fun x hx y hy=>h x (List.mem_of_mem_take hx) y hy
 have e1:(la.drop ia).take (la.length - ia)=la.drop ia:=List.take_of_length_le (by simp)
 rw [e1] at J
 have J2:=J.swap.take Sb (lb.length - ib) fun x hx y hy=>by
  rw [List.drop_eq_nil_of_le (by omega)] at hy; cases hy
 rw [List.take_of_length_le (by simp)] at J2
 refine ⟨J2.perm.trans ?_,J2.srt⟩
 rw [List.take_of_length_le (by omega),List.take_of_length_le (by omega)]
 exact List.perm_append_comm
structure HI (L:Keyed->Keyed->Bool) (la lb ro:List Keyed) (na nb:Nat):Prop where
 perm:ro.Perm (la.drop na++lb.drop nb)
 srt:Inc L ro
 ha:∀x∈la.take na,∀y∈ro,Le L x y
 hb:∀x∈lb.take nb,∀y∈ro,Le L x y
theorem HI.swap (I:HI L la lb ro na nb):HI L lb la ro nb na:=⟨I.perm.trans List.perm_append_comm,I.srt,I.hb,I.ha⟩
theorem HI.drop (Sa:Inc L la) (I:HI L la lb ro na nb) (k:Nat) (hk:k<=na) (h:∀x∈lb.take nb,∀y∈(la.take na).drop k,Le L x y):HI L la lb ((la.take na).drop k++ro) k nb:=by
 have sd:Inc L (la.take na):=List.Pairwise.sublist (List.take_sublist ..) Sa
 have sc:Inc L ((la.take na).take k++(la.take na).drop k):=by rw [List.take_append_drop]; exact sd
 have sp:=List.pairwise_append.mp sc
 have ek:(la.take na).take k=la.take k:=by rw [List.take_take,Nat.min_eq_left hk]
 refine ⟨?_,List.pairwise_append.mpr ⟨sp.2.1,I.srt,fun x hx y hy=>I.ha x (List.mem_of_mem_drop hx) y hy⟩,fun x hx y hy=>?_,fun x hx y hy=>?_⟩
 ·have e:la.drop k=(la.take na).drop k++la.drop na:=by
   rcases Nat.lt_or_ge la.length na with c | c
   ·rw [List.take_of_length_le (by omega),List.drop_eq_nil_of_le (i:=na) (by omega),List.append_nil]
   ·conv=>lhs; rw [<-List.take_append_drop na la]
    rw [List.drop_append_of_le_length (by rw [ZB]; omega)]
  rw [e,Zy_]
  exact I.perm.append_left _
 ·rw [<-ek] at hx
  rcases Θa hy with hy | hy
  ·exact sp.2.2 x hx y hy
  ·exact I.ha x (List.mem_of_mem_take hx) y hy
 ·rcases Θa hy with hy | hy
  ·exact h x hx y hy
  ·exact I.hb x hx y hy
theorem HI.fin (Sa:Inc L la) (Sb:Inc L lb) (I:HI L la lb ro na nb) (h:∀x∈la.take na,∀y∈lb.take nb,Le L x y):(la.take na++lb.take nb++ro).Perm (la++lb)/\Inc L (la.take na++lb.take nb++ro):=by
 have J:=I.swap.drop Sb 0 (Zp_ _) fun x hx y hy=>h x hx y (List.mem_of_mem_drop hy)
 have J2:=J.swap.drop Sa 0 (Zp_ _) fun x hx y hy=>by rw [List.take_zero] at hx; cases hx
 rw [List.drop_zero,List.drop_zero] at J2
 rw [Zy_]
 refine ⟨J2.perm.trans ?_,J2.srt⟩
 rw [List.drop_zero,List.drop_zero]
end
end SR
end L2
namespace L2
open PySem PySem.W PyProof.Rows
namespace SR
section
variable {L:Keyed->Keyed->Bool} {a b out:Array Keyed} {ia ib k:Nat} {x y:Keyed}
structure Kp (st st':SortSt):Prop where
 kind:kindOf st' = kindOf st
 arr:arrOf st' = arrOf st
 pend:pendingOf st' = pendingOf st
 failed:failedOf st' = failedOf st
theorem Kp.refl (st:SortSt):Kp st st:=⟨rfl,rfl,rfl,rfl⟩
theorem Hc {a:Array Keyed} {i j:Nat}:(a.extract i j).toList=(a.toList.drop i).take (j - i):=by
 simp
theorem Jd {a:Array Keyed} {i:Nat}:(a.extract i a.size).toList=a.toList.drop i:=by
 rw [Hc]; exact List.take_of_length_le (by simp)
theorem Qj {a:Array Keyed} {i:Nat}:a.toList[i]? = a[i]?:=by simp
theorem up (O:TO L) (Sa:Inc L a.toList) (h:a[ia]? = some x) (g:Le L y x):∀z∈a.toList.drop ia,Le L y z:=fun z hz=>by
 obtain ⟨j,hj,ej⟩:=Lw hz
 rw [<-Qj] at h
 exact g.trans O (Sa.le' O h ej hj)
noncomputable abbrev Fin (L:Keyed->Keyed->Bool) (a b r:Array Keyed):Prop:=r.toList.Perm (a.toList++b.toList)/\Inc L r.toList
noncomputable abbrev Lo (L:Keyed->Keyed->Bool) (a b out:Array Keyed) (ia ib:Nat):Prop:=LI L a.toList b.toList out.toList ia ib
theorem Lo.done (Sa:Inc L a.toList) (Sb:Inc L b.toList) (I:Lo L a b out ia ib) (h:ia=a.size\/ib=b.size):Fin L a b (out++a.extract ia a.size++b.extract ib b.size):=by
 have:=LI.fin Sa Sb I fun x hx y hy=>by
  rcases h with h | h
  ·rw [h,List.drop_eq_nil_of_le (by simp)] at hx; cases hx
  ·rw [h,List.drop_eq_nil_of_le (by simp)] at hy; cases hy
 unfold Fin
 rw [Array.toList_append,Array.toList_append,Jd,Jd]
 exact this
theorem Lo.last (Sa:Inc L a.toList) (Sb:Inc L b.toList) (h1:∀y∈b.toList,∀x,a[a.size - 1]? = some x->Le L y x) (I:Lo L a b out ia ib) (h:ia + 1=a.size):Fin L a b (out++b.extract ib b.size++a.extract ia a.size):=by
 have:=LI.fin Sb Sa I.swap fun y hy x hx=>by
  obtain ⟨j,hj,ej⟩:=Lw hx
  have hl:=(Ze_.mp ej).1
  rw [Zz_] at hl
  rw [Qj] at ej
  exact h1 y (List.mem_of_mem_drop hy) x (by rw [<-ej]; congr 1; omega)
 unfold Fin
 rw [Array.toList_append,Array.toList_append,Jd,Jd]
 exact ⟨this.1.trans List.perm_append_comm,this.2⟩
end
section
variable {prog:Program} {w:World} {A:Around} {E:Value->Shared->Prop} {s:Shared} {κ:SortKind} {U:Keyed->Prop} {L:Keyed->Keyed->Bool}
end
end SR
end L2
namespace L2
open PySem PySem.W PyProof.Rows
namespace SR
section
variable {prog:Program} {w:World} {A:Around} {E:Value->Shared->Prop} {s:Shared} {κ:SortKind} {U:Keyed->Prop} {L:Keyed->Keyed->Bool}
end
end SR
end L2
namespace L2
open PySem PySem.W PyProof.Rows
namespace SR
section
variable {L:Keyed->Keyed->Bool} {a b out:Array Keyed} {na nb k:Nat} {x y:Keyed}
theorem dn (O:TO L) (Sa:Inc L a.toList) (h:a[na - 1]? = some x) (g:Le L x y):∀z∈a.toList.take na,Le L z y:=fun z hz=>by
 obtain ⟨j,hj,ej⟩:=Lx hz
 rw [<-Qj] at h
 exact (Sa.le' O ej h (by omega)).trans O g
noncomputable abbrev Hi (L:Keyed->Keyed->Bool) (a b out:Array Keyed) (na nb:Nat):Prop:=HI L a.toList b.toList out.toList.reverse na nb
theorem ex0 {a:Array Keyed} {n:Nat}:(a.extract 0 n).toList=a.toList.take n:=by rw [Hc]; rfl
theorem Hi.done (Sa:Inc L a.toList) (Sb:Inc L b.toList) (I:Hi L a b out na nb) (h:na=0\/nb=0):Fin L a b (a.extract 0 na++b.extract 0 nb++out.reverse):=by
 have:=HI.fin Sa Sb I fun x hx y hy=>by
  rcases h with h | h
  ·rw [h] at hx; cases hx
  ·rw [h] at hy; cases hy
 unfold Fin
 rw [Array.toList_append,Array.toList_append,ex0,ex0,Array.toList_reverse]
 exact this
theorem Hi.first (Sa:Inc L a.toList) (Sb:Inc L b.toList) (h0:∀x∈a.toList,∀y,b[0]? = some y->Le L y x) (I:Hi L a b out na nb) (h:nb=1):Fin L a b (b.extract 0 nb++a.extract 0 na++out.reverse):=by
 have:=HI.fin Sb Sa I.swap fun y hy x hx=>by
  obtain ⟨j,hj,ej⟩:=Lx hy
  rw [Qj] at ej
  exact h0 x (List.mem_of_mem_take hx) y (by rw [<-ej]; congr 1; omega)
 unfold Fin
 rw [Array.toList_append,Array.toList_append,ex0,ex0,Array.toList_reverse]
 exact ⟨this.1.trans List.perm_append_comm,this.2⟩
end
section
variable {prog:Program} {w:World} {A:Around} {E:Value->Shared->Prop} {s:Shared} {κ:SortKind} {U:Keyed->Prop} {L:Keyed->Keyed->Bool}
end
end SR
end L2
namespace L2
open PySem PySem.W PyProof.Rows
namespace SR
section
variable {L:Keyed->Keyed->Bool}
end
section
variable {prog:Program} {w:World} {A:Around} {E:Value->Shared->Prop} {s:Shared} {κ:SortKind} {U:Keyed->Prop} {L:Keyed->Keyed->Bool}
end
end SR
end L2
namespace L2
open PySem PySem.W PyProof.Rows
namespace SR
section
variable {L:Keyed->Keyed->Bool} {xs:Array Keyed} {lo n q:Nat}
noncomputable def at_ (xs:Array Keyed) (k:Nat):Keyed:=(xs[k]?).getD (Value.none,Value.none)
theorem Zq {k:Nat} (h:k < xs.size):xs[k]? = some (at_ xs k):=by
 unfold at_
 rw [ZC h]
 rfl
theorem Uy {i j:Nat} (hj:j<=xs.size) (k:Nat):at_ (mirror xs i j ((j - i) / 2)) k=if i<=k/\k < j then at_ xs (i + j - 1 - k) else at_ xs k:=by
 unfold at_
 rw [getElem?_mirror_all hj]
 split <;> rfl
noncomputable def Up (L:Keyed->Keyed->Bool) (xs:Array Keyed) (lo n:Nat):Prop:=∀i j,i < j->j < n->Le L (at_ xs (lo + i)) (at_ xs (lo + j))
noncomputable def Dn (L:Keyed->Keyed->Bool) (xs:Array Keyed) (lo n:Nat):Prop:=∀i j,i < j->j < n->Le L (at_ xs (lo + j)) (at_ xs (lo + i))
theorem Up.more (O:TO L) (h:Up L xs lo n) (h1:1<=n) (g:Le L (at_ xs (lo + n - 1)) (at_ xs (lo + n))):Up L xs lo (n + 1):=fun i j hij hj=>by
 by_cases c:j < n
 ·exact h i j hij c
 ·have e:j=n:=by omega
  subst e
  by_cases d:i=j - 1
  ·rw [d,show lo + (j - 1)=lo + j - 1 by omega]; exact g
  ·have:=h i (j - 1) (by omega) (by omega)
   rw [show lo + (j - 1)=lo + j - 1 by omega] at this
   exact this.trans O g
theorem Dn.more (O:TO L) (h:Dn L xs lo n) (h1:1<=n) (g:Le L (at_ xs (lo + n)) (at_ xs (lo + n - 1))):Dn L xs lo (n + 1):=fun i j hij hj=>by
 by_cases c:j < n
 ·exact h i j hij c
 ·have e:j=n:=by omega
  subst e
  by_cases d:i=j - 1
  ·rw [d,show lo + (j - 1)=lo + j - 1 by omega]; exact g
  ·have:=h i (j - 1) (by omega) (by omega)
   rw [show lo + (j - 1)=lo + j - 1 by omega] at this
   exact g.trans O this
structure DI (L:Keyed->Keyed->Bool) (xs:Array Keyed) (lo n q:Nat):Prop where
 q1:q + 1<=n
 dn:Dn L xs lo n
 eq:∀i j,n - (q + 1)<=i->i < n->n - (q + 1)<=j->j < n->Le L (at_ xs (lo + i)) (at_ xs (lo + j))
theorem DI.one (O:TO L) (h1:1<=n) (h:Dn L xs lo n):DI L xs lo n 0:=⟨by omega,h,fun i j a b c d=>by
 have:i=j:=by omega
 rw [this]; exact irr O _⟩
theorem Dn.turn (D:Dn L xs lo n) (hs:lo + n<=xs.size):Up L (mirror xs lo (lo + n) ((lo + n - lo) / 2)) lo n:=fun i j hij hj=>by
 rw [Uy hs,Uy hs,if_pos (by omega),if_pos (by omega)]
 have:=D (n - 1 - j) (n - 1 - i) (by omega) (by omega)
 rw [show lo + (n - 1 - j)=lo + (lo + n) - 1 - (lo + j) by omega,show lo + (n - 1 - i)=lo + (lo + n) - 1 - (lo + i) by omega] at this
 exact this
theorem Up.same (O:TO L) (h:Up L xs lo n) (h1:1<=n) (g:Le L (at_ xs (lo + n - 1)) (at_ xs lo)):∀i j,i < n->j < n->Le L (at_ xs (lo + i)) (at_ xs (lo + j)):=fun i j hi hj=>by
 have top:Le L (at_ xs (lo + i)) (at_ xs (lo + n - 1)):=by
  by_cases c:i=n - 1
  ·rw [c,show lo + (n - 1)=lo + n - 1 by omega]; exact irr O _
  ·have:=h i (n - 1) (by omega) (by omega)
   rwa [show lo + (n - 1)=lo + n - 1 by omega] at this
 have low:Le L (at_ xs lo) (at_ xs (lo + j)):=by
  by_cases c:j=0
  ·rw [c]; exact irr O _
  ·exact h 0 j (by omega) hj
 exact (top.trans O g).trans O low
end
section
variable {prog:Program} {w:World} {A:Around} {E:Value->Shared->Prop} {s:Shared} {κ:SortKind} {U:Keyed->Prop} {L:Keyed->Keyed->Bool} {lo:Nat} {st0 st:SortSt}
structure Sg (κ:SortKind) (lo:Nat) (st0 st:SortSt):Prop where
 kind:kindOf st=κ
 failed:failedOf st=none
 pend:pendingOf st=pendingOf st0
 perm:(arrOf st).Perm (arrOf st0)
 pre:∀k,k < lo->(arrOf st)[k]? = (arrOf st0)[k]?
theorem Sg.size (G:Sg κ lo st0 st):(arrOf st).size=(arrOf st0).size:=G.perm.size_eq
theorem Sg.u (G:Sg κ lo st0 st) (u0:∀x∈(arrOf st0).toList,U x) {k:Nat} (h:k < (arrOf st).size):U (at_ (arrOf st) k):=by
 have:=Zq h
 exact u0 _ ((Array.perm_iff_toList_perm.mp G.perm).mem_iff.mp (by rw [<-Array.getElem?_toList] at this; exact Θe this))
end
end SR
end L2
namespace L2
open PySem PySem.W PyProof.Rows
namespace SR
section
variable {L:Keyed->Keyed->Bool}
noncomputable def Runs (L:Keyed->Keyed->Bool):Nat->List (Nat × Nat × Nat)->List (List Keyed)->Prop
 | _,[],[]=>True
 | o,p :: ps,r :: rs=>p.1=o/\p.2.1=r.length/\1<=r.length/\Inc L r/\Runs L (o + r.length) ps rs
 | _,_,_=>False
theorem Runs.len:∀{o:Nat} {ps:List (Nat × Nat × Nat)} {rs:List (List Keyed)},Runs L o ps rs->ps.length=rs.length/\rs.length<=rs.flatten.length
 | _,[],[],_=>⟨rfl,Zd_ _⟩
 | _,p :: ps,r :: rs,h=>by
  obtain ⟨_,_,h3,_,h5⟩:=h
  obtain ⟨e1,e2⟩:=h5.len
  rw [ZA,ZA,e1,List.flatten_cons,Zv_]
  exact ⟨rfl,by omega⟩
 | _,[],_ :: _,h=>h.elim
 | _,_ :: _,[],h=>h.elim
theorem Runs.push:∀{o:Nat} {ps:List (Nat × Nat × Nat)} {rs:List (List Keyed)} {r:List Keyed} {z:Nat},Runs L o ps rs->1<=r.length->Inc L r->Runs L o (ps++[(o + rs.flatten.length,r.length,z)]) (rs++[r])
 | o,[],[],r,z,_,h1,h2=>⟨by simp,rfl,h1,h2,trivial⟩
 | o,p :: ps,q :: rs,r,z,h,h1,h2=>by
  obtain ⟨a1,a2,a3,a4,a5⟩:=h
  have:=a5.push (z:=z) h1 h2
  refine ⟨a1,a2,a3,a4,?_⟩
  show Runs L (o + q.length) (ps++_) (rs++[r])
  rw [List.flatten_cons,Zv_,<-Nat.add_assoc]
  exact this
 | _,[],_ :: _,_,_,h,_,_=>h.elim
 | _,_ :: _,[],_,_,h,_,_=>h.elim
theorem Runs.alike:∀{o:Nat} {ps ps':List (Nat × Nat × Nat)} {rs:List (List Keyed)},Runs L o ps rs->ps'.map (fun p=>(p.1,p.2.1))=ps.map (fun p=>(p.1,p.2.1))->Runs L o ps' rs
 | _,[],[],[],_,_=>trivial
 | o,p :: ps,p' :: ps',r :: rs,h,e=>by
  obtain ⟨a1,a2,a3,a4,a5⟩:=h
  rw [List.map_cons,List.map_cons] at e
  injection e with e1 e2
  injection e1 with e3 e4
  exact ⟨e3.trans a1,e4.trans a2,a3,a4,a5.alike e2⟩
 | _,p :: ps,[],_,_,e=>by simp at e
 | _,[],p' :: ps',_,_,e=>by simp at e
 | _,[],_,_ :: _,h,_=>h.elim
 | _,_ :: _,_,[],h,_=>h.elim
theorem Runs.cut:∀{i o:Nat} {ps:List (Nat × Nat × Nat)} {rs:List (List Keyed)},Runs L o ps rs->i + 1 < ps.length->∃ps1 u v ps2 rs1 ra rb rs2,ps=ps1++u :: v :: ps2/\i=ps1.length/\rs=rs1++ra :: rb :: rs2/\u.1=o + rs1.flatten.length/\u.2.1=ra.length/\v.1=o + rs1.flatten.length + ra.length/\v.2.1=rb.length/\1<=ra.length/\1<=rb.length/\Inc L ra/\Inc L rb/\
  ∀m:List Keyed,m.length=ra.length + rb.length->Inc L m->Runs L o (ps1++(u.1,u.2.1 + v.2.1,u.2.2) :: ps2) (rs1++m :: rs2)
 | 0,o,u :: v :: ps,ra :: rb :: rs,h,_=>by
  obtain ⟨a1,a2,a3,a4,b1,b2,b3,b4,b5⟩:=h
  refine ⟨[],u,v,ps,[],ra,rb,rs,rfl,rfl,rfl,by simpa using a1,a2,by simpa using b1,b2,a3,b3,a4,b4,fun m e hm=>⟨a1,by rw [e,a2,b2],by omega,hm,?_⟩⟩
  rw [e,<-Nat.add_assoc]
  exact b5
 | i + 1,o,p :: ps,r :: rs,h,hi=>by
  obtain ⟨a1,a2,a3,a4,a5⟩:=h
  obtain ⟨ps1,u,v,ps2,rs1,ra,rb,rs2,e1,e2,e3,c1,c2,c3,c4,c5,c6,c7,c8,c9⟩:=a5.cut (i:=i) (by rw [ZA] at hi; omega)
  refine ⟨p :: ps1,u,v,ps2,r :: rs1,ra,rb,rs2,by rw [e1]; rfl,by rw [ZA,e2],by rw [e3]; rfl,?_,c2,?_,c4,c5,c6,c7,c8,fun m e hm=>⟨a1,a2,a3,a4,c9 m e hm⟩⟩
  ·rw [c1,List.flatten_cons,Zv_,Nat.add_assoc]
  ·rw [c3,List.flatten_cons,Zv_,Nat.add_assoc o]
 | _,_,[],_,_,hi=>by simp at hi
 | 0,_,[_],_,_,hi=>by simp at hi
 | 0,_,_ :: _ :: _,[],h,_=>h.elim
 | 0,_,_ :: _ :: _,[_],h,_=>h.2.2.2.2.elim
 | _ + 1,_,_ :: _,[],h,_=>h.elim
end
section
variable {prog:Program} {w:World} {A:Around} {E:Value->Shared->Prop} {s:Shared} {κ:SortKind} {U:Keyed->Prop} {L:Keyed->Keyed->Bool} {a₀:Array Keyed} {R:List Keyed} {st:SortSt}
structure St (L:Keyed->Keyed->Bool) (κ:SortKind) (a₀:Array Keyed) (R:List Keyed) (st:SortSt):Prop where
 kind:kindOf st=κ
 failed:failedOf st=none
 perm:(arrOf st).Perm a₀
 ex:∃rs,(arrOf st).toList=rs.flatten++R/\Runs L 0 (pendingOf st).toList rs
theorem St.u (S:St L κ a₀ R st) (u0:∀x∈a₀.toList,U x):∀x∈(arrOf st).toList,U x:=fun x hx=>u0 x ((Array.perm_iff_toList_perm.mp S.perm).mem_iff.mp hx)
theorem St.push (S:St L κ a₀ R st) {lo n:Nat} (e:lo + R.length=a₀.size) (h1:1<=n) (h2:n<=R.length) (hi:Inc L (R.take n)):St L κ a₀ (R.drop n) (setPending st ((pendingOf st).push (lo,n,0))):=by
 obtain ⟨rs,e1,r⟩:=S.ex
 have hl:lo=rs.flatten.length:=by
  have:=S.perm.size_eq
  rw [<-Zz_,e1,Zv_] at this
  omega
 refine ⟨S.kind,S.failed,S.perm,rs++[R.take n],?_,?_⟩
 ·show (arrOf st).toList=_
  rw [e1]
  simp
 ·show Runs L 0 ((pendingOf st).push (lo,n,0)).toList _
  have hn:(R.take n).length=n:=by rw [ZB]; omega
  have:=r.push (r:=R.take n) (z:=0) (by omega) hi
  rw [Nat.zero_add,<-hl,hn] at this
  rw [Array.toList_push]
  exact this
theorem St.mod (S:St L κ a₀ R st) (k pw:Nat):St L κ a₀ R (setPending st ((pendingOf st).modify k fun x=>(x.1,x.2.1,pw))):=by
 obtain ⟨rs,e1,r⟩:=S.ex
 refine ⟨S.kind,S.failed,S.perm,rs,e1,r.alike ?_⟩
 show List.map _ ((pendingOf st).modify k fun x=>(x.1,x.2.1,pw)).toList=_
 apply List.ext_getElem?
 intro j
 rw [Θg,Θg,Array.getElem?_toList,Array.getElem?_toList,Array.getElem?_modify]
 split
 ·cases (pendingOf st)[j]? <;> rfl
 ·rfl
end
end SR
end L2
namespace L2
open PySem PySem.Spec PySem.W PyProof.Rows
namespace ST
section
variable {prog:Program} {w:World} {A:Around} {E:Value->Shared->Prop} {s:Shared} {L a:Addr} {mm:Str->Option Value} {m:Nat} {rows:List (Addr × List Int)}
end
end ST
end L2
namespace L2
open PySem PySem.Spec PySem.W PyProof.Rows
namespace ST
section
variable {prog:Program} {w:World} {A:Around} {E:Value->Shared->Prop} {s:Shared} {m:Nat} {S:List (Addr × List Int)->Prop}
end
end ST
end L2
namespace L2
open PySem
namespace ST
end ST
end L2
namespace L2
open PySem
namespace ST
end ST
end L2
namespace L2
open PySem
namespace ST
end ST
end L2
namespace L2
open PySem
namespace ST
section
variable {M:Nat}
end
end ST
end L2
namespace L2
open PySem PySem.Spec
namespace ST
section
variable {prog:Program} {w:World} {K:Type} [DecidableEq K] (knd:PySem.KeyKind prog w K)
end
section
variable {prog:Program} {w:World} {K:Type} [DecidableEq K] {knd:PySem.KeyKind prog w K} {A:Around} {E:Value->Shared->Prop} {s:Shared} {a b:Addr} {xs:List (List K × Addr)} {led:Bool} {o:Obj} {ep:Nat} {t:SetTable} {k:List K} {Pl:Prop}
end
end ST
end L2
namespace L2
open PySem PySem.Spec
namespace ST
section
variable {prog:Program} {w:World} {K:Type} [DecidableEq K] {knd:PySem.KeyKind prog w K} {A:Around} {E:Value->Shared->Prop} {s:Shared} {a b:Addr} {xs:List (List K × Addr)} {led:Bool} {o:Obj} {ep:Nat} {t:SetTable} {k:List K} {Pl:Prop}
end
end ST
end L2
namespace L2
open PySem PySem.Spec
namespace ST
section
variable {prog:Program} {w:World} {K:Type} [DecidableEq K] {knd:PySem.KeyKind prog w K} {A:Around} {a I:Addr} {fp wr:List Addr} {St:Nat->Heap->Prop} {led:Bool} {ts:List (List K × Addr)} {R:Result->Shared->Prop} {P:Nat->Value->Prop} {N:Nat} {Pl:Prop}
end
end ST
end L2
namespace L2
open PySem PySem.Spec
namespace ST
section
variable {prog:Program} {w:World} {K:Type} [DecidableEq K] {knd:PySem.KeyKind prog w K} {A:Around} {E:Value->Shared->Prop} {s:Shared} {Pl:Prop}
noncomputable abbrev ledBy (w:World):Bool:=!w.params.followText "set-order"
noncomputable abbrev bare (w:World):Obj:={ cls:=.type "set",data:=.set #[] 0 (.fresh 0 0 (ledBy w)) }
theorem new_bare {a:Value} {R:PySem.Fin->Shared->Prop} (h:R (.done (.ret (.ref s.heap.objs.size))) { s with heap:=s.heap.push (bare w) }) :
  wpAny (model prog w) A (Builtin.«set.__new__» ⟨[.type "set",a],[]⟩) R E s:=by
 have hsub:=PySem.sub_set_self
 unfold Builtin.«set.__new__» Builtin.Frozenset.newClass
 wp_walk
 refine wpAny_askSetting (Zb_ ?_)
 dsimp only
 wp_walk
 exact h
end
end ST
end L2
namespace L2
open PySem PySem.Spec PySem.W PyProof.Rows
namespace ST
end ST
end L2
namespace L2
open PySem PySem.Spec PySem.W PyProof.Rows
namespace ST
section
variable {prog:Program} {w:World} {A:Around} {E:Value->Shared->Prop} {s:Shared} {a I:Addr} {o:Obj} {es:Array (Int × Value)} {ep:Nat} {t:SetTable}
end
end ST
end L2
namespace L2
open PySem PySem.Spec PySem.W PyProof.Rows
namespace ST
section
variable {prog:Program} {w:World} {A:Around} {E:Value->Shared->Prop} {s:Shared} {a I:Addr} {o:Obj} {es:Array (Int × Value)} {ep:Nat} {t:SetTable}
end
end ST
end L2
namespace L2
open PySem PySem.Spec PySem.W PyProof.Rows
namespace ST
section
variable {prog:Program} {w:World} {A:Around} {E:Value->Shared->Prop} {s:Shared} {a I:Addr} {o:Obj} {es:Array (Int × Value)} {ep:Nat} {t:SetTable}
end
end ST
end L2
namespace L2
open PySem PySem.Spec PySem.W PyProof.Rows
namespace ST
section
variable {prog:Program} {w:World} {A:Around} {E:Value->Shared->Prop} {s:Shared} {d I:Addr} {o:Obj} {es:Array DictEntry} {ep:Nat}
end
end ST
end L2
namespace L2
open PySem PySem.Spec PySem.W PyProof.Rows
section
variable {P:Program} {w:World} {H:Hp} {h:Heap} {m:Nat} {rows:List RW}
end
section
variable {X:Cx} {K:Θf}
end
noncomputable def K0 (l:List Str):List Str:=l.foldl (fun acc x=>if x∈acc then acc else acc++[x]) []
theorem X8 (l:List Str) (x:Str):K0 (l++[x])=if x∈K0 l then K0 l else K0 l++[x]:=by
 unfold K0
 rw [List.foldl_append]; rfl
theorem Id {α:Type} {p:List α->Prop} (h0:p []) (hs:∀l x,p l->p (l++[x])) (l:List α):p l:=by
 have:∀n (l:List α),l.length=n->p l:=by
  intro n
  induction n with
  | zero=>intro l h; rw [List.length_eq_zero_iff.mp h]; exact h0
  | succ n ih=>
   intro l h
   have hne:l≠[]:=fun z=>by rw [z] at h; cases h
   rw [<-List.dropLast_concat_getLast hne]
   exact hs _ _ (ih _ (by rw [List.length_dropLast,h]; rfl))
 exact this _ l rfl
theorem Vi (l:List Str):∀k,k∈K0 l↔k∈l:=by
 induction l using Id with
 | h0=>intro k; exact Iff.rfl
 | hs l x ih=>
  intro k
  rw [X8,List.mem_append,List.mem_singleton,<-ih k]
  split
  ·rename_i hx
   exact ⟨.inl,fun h=>h.elim id fun e=>e ▸ hx⟩
  ·rw [List.mem_append,List.mem_singleton]
theorem Li (l:List Str):(K0 l).length<=l.length/\((K0 l).length=l.length↔l.Nodup):=by
 induction l using Id with
 | h0=>exact ⟨Zd_ _,fun _=>List.nodup_nil,fun _=>rfl⟩
 | hs l x ih=>
  obtain ⟨h1,h2⟩:=ih
  have nd:(l++[x]).Nodup↔l.Nodup/\x∉l:=by
   rw [List.nodup_append]
   constructor
   ·rintro ⟨a,_,b⟩
    exact ⟨a,fun hx=>b x hx x (List.mem_singleton.mpr rfl) rfl⟩
   ·rintro ⟨a,b⟩
    refine ⟨a,List.nodup_cons.mpr ⟨Zi_,List.nodup_nil⟩,fun c hc d hd e=>b ?_⟩
    rw [<-Θs hd,<-e]
    exact hc
  rw [X8,nd,Zv_,<-Vi l x,<-h2]
  split
  ·rename_i hx
   refine ⟨Nat.le_succ_of_le h1,fun e=>?_,fun e=>absurd hx e.2⟩
   simp only [List.length_cons,List.length_nil] at e
   omega
  ·rename_i hx
   rw [Zv_]
   simp only [List.length_cons,List.length_nil]
   exact ⟨by omega,fun e=>⟨by omega,hx⟩,fun e=>by omega⟩
section
variable {prog:Program} {w:World} {A:Around} {a I:Addr} {fp wr:List Addr} {St:Nat->Heap->Prop} {ws:List Str} {R:Result->Shared->Prop} {P:Nat->Value->Prop} {N:Nat}
theorem W8 {h h':Heap} {S:Str->Bool} {n:Nat} (x:h.SetOf (strKind prog w) a S n) (e:∀o,h.get? a=some o->h'.get? a=some o):h'.SetOf (strKind prog w) a S n:=by
 obtain ⟨o,es,ep,t,ho,rest⟩:=x
 exact ⟨o,es,ep,t,e _ ho,rest⟩
theorem Yn {h:Heap} {S S':Str->Bool} {n n':Nat} (x:h.SetOf (strKind prog w) a S n) (e:∀k,S k=S' k) (en:n=n'):h.SetOf (strKind prog w) a S' n':=by
 have:S=S':=funext e
 rw [<-this,<-en]
 exact x
theorem Wc (W:Walks prog w A.in1 I fp wr N P St) (hN:N=ws.length) (hP:∀i v,P i v->∃x t,ws[i]? = some x/\v = .str x t) (haf:a∉fp) (l18:ws.length<=306) :
  ∀(n i:Nat) (s:Shared),n=ws.length - i->i<=ws.length->St i s.heap->s.heap.SetOf (strKind prog w) a (fun k=>decide (k∈K0 (ws.take i))) (K0 (ws.take i)).length->
   (∀h' tk,(∀b o,b≠a->b∉wr->s.heap.get? b=some o->h'.get? b=some o)->h'.SetOf (strKind prog w) a (fun k=>decide (k∈K0 ws)) (K0 ws).length->R (.ok (.ret .none)) { s with heap:=h',toks:=tk })->
   codeAny (model prog w) A (.builtin "set.update.loop" ⟨[.ref a,.ref I],[]⟩) R s:=by
 have haw:a∉wr:=fun h=>haf (W.sub _ h)
 subst hN
 intro n
 induction n with
 | zero=>
  intro i s hn hi st S q
  have e:i=ws.length:=by omega
  subst e
  refine codeAny_builtin PyProof.Rows.F.entry_set_update_loop ?_
  rw [Around.under_plainId PyProof.Rows.F.plain_set_update_loop _]
  unfold Builtin.«set.update.loop»
  dsimp only
  refine Za_ (W.done s _ _ st fun h' tk keep=>?_)
  dsimp only
  rw [List.take_length] at S
  exact Zb_ (q h' tk (fun b o _ nb e=>keep b o nb e) (W8 S fun o e=>keep a o haw e))
 | succ n ih=>
  intro i s hn hi st S q
  have hlt:i < ws.length:=by omega
  refine codeAny_builtin PyProof.Rows.F.entry_set_update_loop ?_
  rw [Around.under_plainId PyProof.Rows.F.plain_set_update_loop _]
  unfold Builtin.«set.update.loop»
  dsimp only
  refine Za_ (W.item i s _ _ hlt st fun v h' tk hv' st' keep=>?_)
  obtain ⟨x,t,hx,rfl⟩:=hP _ _ hv'
  have S':=W8 S fun o e=>keep a o haw e
  dsimp only
  refine Za_ (wpAny_holding ?_)
  unfold setAdd
  have isx:(strKind prog w).is x (.str x t)=true:=by show Value.isStrOf x (.str x t)=true; simp [Value.isStrOf]
  refine wpAny_holding (Za_ ((strKind prog w).pyHash (k:=x) isx ?_))
  have et:ws.take (i + 1)=ws.take i++[x]:=by rw [List.take_succ,hx]; rfl
  have lt:(K0 (ws.take i)).length + 1 < scanBound:=by
   have h1:=(Li (ws.take i)).1
   have h2:=List.length_take_le i ws
   unfold scanBound
   omega
  refine wpAny_setAddHashed_of (knd:=strKind prog w) (s:={ s with heap:=h',toks:=tk + 1 }) isx rfl S' lt fun h2 sb S2=>?_
  refine Zb_ ⟨plainId_quiet PyProof.Rows.F.plain_set_update_loop _,?_⟩
  refine ih (i + 1) _ (by omega) hlt (W.frame (i + 1) h' h2 st' fun c hc o e=>by rw [sb.2 c (fun z=>haf (z ▸ hc))]; exact e) (Yn S2 (fun k=>?_) ?_) fun h3 tk3 keep3 T3=>q h3 tk3 (fun c o nc nw e=>keep3 c o nc nw (by show h2.get? c=some o; rw [sb.2 c nc]; exact keep c o nw e)) T3
  ·rw [et,X8]
   split
   ·rename_i hd
    by_cases ek:k=x
    ·subst ek; rw [Zr_ hd]; rfl
    ·rw [decide_eq_false ek,Bool.or_false]
   ·rw [Bool.eq_iff_iff,Bool.or_eq_true,decide_eq_true_iff,decide_eq_true_iff,decide_eq_true_iff,List.mem_append,List.mem_singleton]
  ·rw [et,X8]
   by_cases hd:x∈K0 (ws.take i)
   ·rw [if_pos hd,if_pos (Zr_ hd)]
   ·rw [if_neg hd,if_neg (by rw [decide_eq_false hd]; exact Zf_),Zv_]; rfl
end
section
variable {prog:Program} {w:World} {A:Around} {E:Value->Shared->Prop} {s:Shared}
theorem Zu {l:Addr} {ws:List Str} {vs:List Value} {Q:Value->Shared->Prop} (hh:A.handled=none) (hl:s.heap.IsList l vs.toArray) (hv:Vals (ws.map V.str) vs) (l18:ws.length<=306)
  (h:∀h' tk,h'.SetOf (strKind prog w) s.heap.objs.size (fun k=>decide (k∈K0 ws)) (K0 ws).length->(∀b o,b < s.heap.objs.size->s.heap.get? b=some o->h'.get? b=some o)->Q (.ref s.heap.objs.size) { s with heap:=h',toks:=tk }) :
  wpAny (model prog w) A (call (.type "set") [.ref l]) Q E s:=by
 refine wpAny_call ?_
 refine codeAny_of_tree ?_
 wp_walk
 have C:=PySem.F.called_set
 obtain ⟨c,tl,hm⟩:=C.mro
 have n1:=C.notType
 have n2:=C.canCreate
 have n3:=C.made
 have n4:=C.sub
 have chk:=PySem.F.typeCall_set_1 (.ref l)
 constructor
 ·exact Code.quiet_builtin _ (by decide +kernel)
 refine codeAny_builtin PySem.F.entry_type_call ?_
 rw [Around.under_plain (weight_type_call_type "set" [.ref l] []) rfl]
 unfold Builtin.«type.__call__»
 wp_walk
 refine codeAny_call_builtin PySem.F.plain_set_new PySem.F.entry_set_new (wpAny_of_eq (PySem.F.newCall_set_1 (.ref l)) (ST.new_bare ?_))
 have hS:(s.heap.push (ST.bare w)).get? s.heap.objs.size=some (ST.bare w):=Zm_ _ rfl
 have ty:Shared.TypeIs { s with heap:=s.heap.push (ST.bare w) } (.ref s.heap.objs.size) "set":=⟨_,hS,rfl⟩
 have li:=C.init.lookup
 have bi:=C.init.bind (.ref s.heap.objs.size)
 wp_walk
 refine codeAny_call_builtin C.init.plain PySem.F.entry_set_init (check_set_init_1 ty ?_)
 have hl1:(s.heap.push (ST.bare w)).IsList l vs.toArray:=hl.push _
 have lty:Shared.TypeIs { s with heap:=s.heap.push (ST.bare w) } (.ref l) "list":=by
  obtain ⟨ol,a1,a2,_⟩:=hl1
  exact ⟨ol,a1,a2⟩
 have s1:=PySem.F.sub_list_set
 have s2:=PySem.F.sub_list_frozenset
 unfold Builtin.«set.__init__» noKeywords Builtin.Frozenset.updateFrom
 wp_walk using wpAny_pyIter_list hl1
 have lt:l < s.heap.objs.size:=by obtain ⟨ol,a1,_⟩:=hl; exact Zn_ a1
 have sz:(s.heap.push (ST.bare w)).objs.size=s.heap.objs.size + 1:=Heap.size_push ..
 have lv:vs.length=ws.length:=by rw [<-hv.length,Θl]
 refine Wc (ws:=ws) (a:=s.heap.objs.size) (Walks.list (A:=A.in1.in1.in1) hh _ l (Zs_ (by show l < (s.heap.push (ST.bare w)).objs.size; rw [sz]; exact Nat.lt_succ_of_lt lt)) vs.toArray) (by rw [Zx_]; exact lv) (fun i v e=>?_) ?_ l18 ws.length 0 _ (by omega) (Zp_ _) ⟨⟨_,Zm_ _ rfl,rfl,rfl⟩,hl1.push _⟩ ?_ fun h' tk keep T=>?_
 ·rw [List.getElem?_toArray] at e
  have hi:i < ws.length:=by rw [<-lv]; exact (Ze_.mp e).1
  obtain ⟨u,hu,ru⟩:=hv.get (i:=i) (x:=V.str ws[i]) (by rw [Θg,Θh hi]; rfl)
  rw [hu] at e
  obtain rfl:=Θo e
  obtain ⟨t,rfl⟩:=ru
  exact ⟨_,t,Θh hi,rfl⟩
 ·show s.heap.objs.size∉[(s.heap.push (ST.bare w)).objs.size,l]
  rw [sz]
  intro z
  rcases Zg_.mp z with z | z
  ·exact absurd z (Zs_ (Nat.lt_succ_self _))
  ·exact absurd (Θs z) (Nat.ne_of_gt lt)
 ·exact (setObjOf_fresh (knd:=strKind prog w) (ST.ledBy w)).setOf (Heap.get?_push_of_some _ hS) (by unfold scanBound; omega)
 ·dsimp only
  wp_walk
  refine h h' tk T fun b o hb e=>keep b o (Zs_ hb) ?_ (Zc_ _ (Zc_ _ e))
  show b∉[(s.heap.push (ST.bare w)).objs.size]
  rw [sz]
  intro z
  exact absurd (Θs z) (Zs_ (Nat.lt_succ_of_lt hb))
end
noncomputable def ssO (P:Program) (w:World) (a:Addr) (n:Nat):HO:=.ext fun h=>∃S,h.SetOf (strKind P w) a S n
section
variable {X:Cx} {K:Θf}
theorem Sf (hK:X.K=K) (hc:X.calm=true):P1 X (.type "set") (fun xs H Q=>∃(p:Addr) (ws:List Str),xs=[.ref p]/\SqL K H p (ws.map V.str)/\ws.length<=300/\∀l:Addr,H l=none->Q (.ref l) (upd H l (ssO X.prog X.w l (K0 ws).length))):=by
 subst hK
 intro pins s σ H xs us Q I r h
 obtain ⟨p,ws,rfl,hq,l18,q⟩:=h
 obtain ⟨u,rfl,rx⟩:=V6 r
 cases rx
 obtain ⟨its,rv,pl,hz⟩:=I.list hq
 refine Zu (ws:=ws) (I.ok.hd hc) pl.isList rv (by omega) fun h' tk T keep=>?_
 have ob:ObjOk X.prog X.w H h' s.heap.objs.size (ssO X.prog X.w s.heap.objs.size (K0 ws).length):=by
  refine ⟨⟨_,T⟩,?_,fun _ _ ⟨S,x⟩ k=>⟨S,W8 x fun o e=>k o e⟩⟩
  obtain ⟨o,es,ep,t,ho,_⟩:=T
  exact ⟨o,ho⟩
 exact ⟨.ref s.heap.objs.size,_,I.laid (t':=tk) (o:=ssO X.prog X.w s.heap.objs.size (K0 ws).length) (fun b o e=>keep b o (Zn_ e) e) (Zd_ _) ob,rfl,q _ I.fresh⟩
theorem Ni:P1 X (.builtin "len") (fun xs H Q=>∃(p:Addr) (n:Nat),xs=[.ref p]/\H p=some (ssO X.prog X.w p n)/\n<=1000/\Q (vN n) H):=by
 intro pins s σ H xs us Q I r h
 obtain ⟨p,n,rfl,hq,hn,q⟩:=h
 obtain ⟨u,rfl,rx⟩:=V6 r
 cases rx
 obtain ⟨⟨S,o,es,ep,t,ho,hex,hd,_,_,_,hf,rfl⟩,_⟩:=(show ObjOk X.prog X.w H s.heap p (ssO X.prog X.w p n) from I.hok p _ hq)
 exact call_len_set ho hex hd hf (by omega) ⟨vN es.size,H,I.tok _,⟨_,rfl⟩,q⟩
end
end L2
namespace L2
open PySem PySem.Spec PyProof.Rows
noncomputable def Itc (z:Str):It:=⟨fun i _=>i < z.cps.size,fun i H x H'=>H' = H/\∃c,z.cps.toList[i]? = some c/\x = .str ⟨#[c]⟩,fun i _=>z.cps.size<=i⟩
theorem Zc {P:Program} {w:World} {K:Θf} {tg:Expr} (it:Addr) (z:Str) (t:Tok):Turn P w K tg (Itc z) [it] it (fun i h=>h.IsStrIter it "str_ascii_iterator" z t i) where
 mem:=by simp
 obj:=fun i h st b hb=>by
  have e:b=it:=by simpa using hb
  subst e
  obtain ⟨o,e,c,d⟩:=st
  exact ⟨o,e,fun v z=>by rw [d] at z; cases z⟩
 keep:=fun i h h' st k=>by
  obtain ⟨o,e,r⟩:=st
  exact ⟨o,k it (by simp) o e,r⟩
 item:=by
  intro X hP hw hK hc i pins s σ H E I hf st hg
  subst hP hw hK
  obtain ⟨f0,f1,f2,f3,f4,f5⟩:=hf it (by simp)
  have W:=Walks.strAscii (prog:=X.prog) (w:=X.w) (I.ok.hd hc) it z t
  refine W.item i s _ _ hg st fun v h' tk hv st' kk=>?_
  obtain ⟨c,u,hcu,rfl⟩:=hv
  have I1:Inv X pins σ H { s with heap:=h',toks:=tk }:=I.turned (fun b o hb e=>kk b o (by simpa using hb) e) f0 f1 f3 f4 f5
  obtain ⟨o,e,cl,d⟩:=id st'
  exact ⟨_,rfl,Qk (s:={ s with heap:=h',toks:=tk }) e cl d (by decide) ⟨.str ⟨#[c]⟩,H,I1,⟨u,rfl⟩,⟨rfl,c,by rw [Array.getElem?_toList]; exact hcu,rfl⟩,st',fun b hb=>(hf b hb).1⟩⟩
 done:=by
  intro X hP hw hK hc i pins s σ H E I hf st hg
  subst hP hw hK
  obtain ⟨f0,f1,f2,f3,f4,f5⟩:=hf it (by simp)
  have hi:z.cps.size<=i:=hg
  exact wpAny_pyNext_ascii_end (I.ok.hd hc) st (by simp; omega) fun h' eb=>⟨rfl,I.turned (t':=s.toks) (fun b o hb e=>eb b o hb e) f0 f1 f3 f4 f5⟩
 self:=fun _ _ _ _ _ st h=>wpAny_pyIter_striter_ascii st h
section
variable {X:Cx} {tg:Expr}
noncomputable def Afs (tl:TE):TI:=fun σ H R=>tl σ H fun x H1=>∃z:Str,x = .str z/\(∀c∈z.cps.toList,c < 128)/\R (Itc z) H1
theorem Adi {l:Expr} {tl:TE} (hl:PE X l tl):PI X tg l (Afs tl):=by
 intro pins s σ H R I h
 refine thn (hl pins s σ H _ I h) fun v s1 ⟨x,H1,I1,r1,q1⟩=>?_
 obtain ⟨z,e,ha,q⟩:=q1
 subst e
 obtain ⟨t,rfl⟩:=r1
 have hall:z.cps.all (· < 128)=true:=by
  rw [<-Array.all_toList,List.all_eq_true]
  exact fun c hc=>Zr_ (ha c hc)
 refine wpAny_pyIter_ascii hall ?_
 refine ⟨s1.heap.objs.size,[s1.heap.objs.size],_,_,H1,rfl,I1.kept (t':=s1.toks) fun b o e=>Zc_ _ e,Zc _ z t,⟨_,Zm_ _ rfl,rfl,rfl⟩,fun b hb=>?_,q⟩
 have e:b=s1.heap.objs.size:=by simpa using hb
 subst e
 exact I1.fpOk (Zd_ _) (I1.hok.fresh (Zd_ _))
theorem Acp {z:Str} {n:Nat} {g:TG} {tc:TT} {te:TE} {σ:St} {H:Hp} {F:List V->Hp->Prop} (Pv:Nat->List V->Hp->Prop) (hn:z.length<=1000000) (h0:Pv 0 [] H)
  (hl:∀i acc H,i<=z.length->Pv i acc H->acc.length<=i)
  (hs:∀i c acc H,z.cps.toList[i]? = some c->Pv i acc H->g (.str ⟨#[c]⟩) (List.replicate n none++σ) H fun σ2 H2=>σ2.drop n=σ/\tc σ2 H2 fun c H3=>if c=true then te σ2 H3 fun y H4=>Pv (i + 1) (acc++[y]) H4 else Pv (i + 1) acc H3)
  (hd:∀acc H,Pv z.length acc H->F acc H):LCW n (Itc z) g tc te σ H F:=by
 have sz:(1000000:Nat) < sizeLine:=by rw [sizeLine_eq]; decide
 refine ⟨fun i m acc H=>m=z.length - i/\i<=z.length/\Pv i acc H,⟨z.length,by simp,Nat.zero_le _,h0⟩,?_⟩
 rintro i m acc H ⟨rfl,hi,p⟩
 have q:=hl i acc H hi p
 by_cases hlt:i < z.length
 ·refine .inr ⟨hlt,by omega,Pv (i + 1),fun acc' H' p'=>⟨z.length - (i + 1),by omega,rfl,hlt,p'⟩,fun x H' y=>?_⟩
  obtain ⟨rfl,c,hc,rfl⟩:=y
  exact hs i c acc _ hc p
 ·have e:i=z.length:=by omega
  subst e
  exact .inl ⟨Zd_ _,by omega,hd acc H p⟩
end
noncomputable def spaceS:Str:=⟨#[32]⟩
noncomputable def nlS:Str:=⟨#[10]⟩
noncomputable def columnsS:Str:="columns"
noncomputable def N5:Str:="settle"
noncomputable def Cz:Str:="deal"
noncomputable def P4 (z:Str):Bool:=decide (z=N5) || decide (z=Cz)
theorem S4 (b:Bool):P4 (D6 b)=true:=by cases b <;> decide +kernel
noncomputable def NW (nms:List Str):Prop:=∀n∈nms,P4 n=false
noncomputable def Ss (c:Nat):Bool:=decide (97<=c) && decide (c<=122)
noncomputable def S1 (z:Str):Bool:=decide (1<=z.length) && decide (z.length<=8) && !P4 z && z.cps.toList.all Ss
noncomputable def K4 (ws:List Str):Bool:=!ws.isEmpty && decide (ws.length<=7) && decide ws.Nodup && ws.all S1
theorem Nq:∀c,c < 128->(!(Builtin.Str.occurrences letS ⟨#[c]⟩ 0 letS.length 1).isEmpty)=Ss c:=by decide +kernel
noncomputable def Ku (z:Str):Prop:=∀c∈z.cps.toList,97<=c/\c<=122
theorem Lu (b:Bool):Ku (D6 b)/\(D6 b).length<=8:=by cases b <;> exact ⟨by unfold Ku; decide +kernel,by decide +kernel⟩
theorem Ls:Ku columnsS/\columnsS.length<=8:=⟨by unfold Ku; decide +kernel,by decide +kernel⟩
noncomputable def G6 (nms:List Str) (r:RD):List Str:=E6 nms r.2.1++D6 r.1 :: E6 nms r.2.2
noncomputable def E7 (nms:List Str) (r:RD):Str:=Str.join spaceS (G6 nms r)
noncomputable def K1 (nms:List Str):Str:=Str.join spaceS (columnsS :: nms)
noncomputable def F4 (nms:List Str) (rs:List RD):List Str:=K1 nms :: rs.map (E7 nms)
noncomputable def O4 (nms:List Str) (rs:List RD):Str:=Str.join nlS (F4 nms rs)
noncomputable def InR (nms:List Str) (r:RD):Prop:=r.2.1 < 2 ^ nms.length/\r.2.2 < 2 ^ nms.length
theorem O7 {sc:Nat} {p:Nat->Prop} (h0:p sc):∀{ps:List Str},(∀x∈ps,∀c∈x.cps.toList,p c)->∀c∈(Str.join ⟨#[sc]⟩ ps).cps.toList,p c
 | [],_,c,hc=>by cases hc
 | [x],h,c,hc=>h x (List.mem_singleton.mpr rfl) c hc
 | x :: q :: r,h,c,hc=>by
  have e:Str.join ⟨#[sc]⟩ (x :: q :: r)=x++⟨#[sc]⟩++Str.join ⟨#[sc]⟩ (q :: r):=rfl
  rw [e,Str.cps_append,Str.cps_append,Array.toList_append,Array.toList_append] at hc
  rcases Θa hc with hc | hc
  ·rcases Θa hc with hc | hc
   ·exact h x (Θc ..) c hc
   ·rw [Θs hc]; exact h0
  ·exact O7 h0 (fun y hy=>h y (Θd _ hy)) c hc
theorem X9 {sep:Str} {ys:List Str} {d:Nat} (h:∀y∈ys,y.length<=d) (hs:sep.length=1):(Str.join sep ys).length<=ys.length * d + ys.length:=by
 have h2:=Ai h
 have h3:=StrLaws.join_length_le sep ys
 rw [hs] at h3
 omega
theorem P5 {sep:Str} {ys:List Str} {d:Nat} (h:∀y∈ys,y.length<=d) (hs:sep.length=1) (hb:ys.length * d + ys.length<=100000):JoinOk sep ys=true:=by
 have h2:=Ai h
 unfold JoinOk
 rw [Bool.not_eq_true']
 show decide (_ > sizeLine)=false
 rw [StrLaws.joinTotal,decide_eq_false]
 have:=sizeLine_eq
 rw [hs]
 omega
section
variable {nms:List Str} {rs:List RD} {r:RD}
theorem U1 (N:NM nms) (h:InR nms r):∀w∈G6 nms r,Ku w/\w.length<=8:=fun w hw=>by
 rcases Θa hw with hw | hw
 ·exact ⟨Cg N h.1 w hw,N.len w (N2 N h.1 hw)⟩
 ·rcases Zg_.mp hw with rfl | hw
  ·exact Lu _
  ·exact ⟨Cg N h.2 w hw,N.len w (N2 N h.2 hw)⟩
theorem Fk (N:NM nms) (h:InR nms r):(G6 nms r).length<=15:=by
 have h1:=Q4 N h.1
 have h2:=Q4 N h.2
 unfold G6
 rw [Zv_,ZA]
 omega
theorem T4 (N:NM nms):∀w∈columnsS :: nms,Ku w/\w.length<=8:=fun w hw=>by
 rcases Zg_.mp hw with rfl | hw
 ·exact Ls
 ·exact ⟨N.low w hw,N.len w hw⟩
theorem Es {ws:List Str} (h:∀w∈ws,Ku w):∀w∈ws,32∉w.cps.toList:=fun w hw z=>by
 have:=h w hw 32 z
 omega
theorem Pm (N:NM nms) (h:InR nms r):Txt.split (E7 nms r) spaceS=G6 nms r:=
 I8 (c:=32) (by decide) (fun z=>by have:=congrArg List.length z; unfold G6 at this; rw [List.length_append,List.length_cons,List.length_nil] at this; omega) (Es fun w hw=>(U1 N h w hw).1)
theorem Gc (N:NM nms):Txt.split (K1 nms) spaceS=columnsS :: nms:=
 I8 (c:=32) (by decide) (List.cons_ne_nil _ _) (Es fun w hw=>(T4 N w hw).1)
noncomputable def okT (c:Nat):Prop:=c=32\/97<=c/\c<=122
theorem Ba (N:NM nms) (h:InR nms r):(∀c∈(E7 nms r).cps.toList,okT c)/\(E7 nms r).length<=150:=by
 refine ⟨O7 (sc:=32) (.inl rfl) fun w hw c hc=>.inr ((U1 N h w hw).1 c hc),?_⟩
 have h1:=Fk N h
 have h2:=X9 (sep:=spaceS) (fun w hw=>(U1 N h w hw).2) rfl
 have e:E7 nms r=Str.join spaceS (G6 nms r):=rfl
 rw [<-e] at h2
 omega
theorem Jh (N:NM nms):(∀c∈(K1 nms).cps.toList,okT c)/\(K1 nms).length<=150:=by
 refine ⟨O7 (sc:=32) (.inl rfl) fun w hw c hc=>.inr ((T4 N w hw).1 c hc),?_⟩
 have h1:=N.l7
 have h2:=X9 (sep:=spaceS) (fun w hw=>(T4 N w hw).2) rfl
 have e:K1 nms=Str.join spaceS (columnsS :: nms):=rfl
 rw [<-e,ZA] at h2
 omega
theorem O1 (N:NM nms) (h:∀r∈rs,InR nms r):∀w∈F4 nms rs,(∀c∈w.cps.toList,okT c)/\w.length<=150:=fun w hw=>by
 rcases Zg_.mp hw with rfl | hw
 ·exact Jh N
 ·obtain ⟨r,hr,rfl⟩:=Θn hw
  exact Ba N (h r hr)
theorem Ge (N:NM nms) (h:∀r∈rs,InR nms r):Txt.split (O4 nms rs) nlS=F4 nms rs:=
 I8 (c:=10) (by decide) (List.cons_ne_nil _ _) fun w hw z=>by
  rcases (O1 N h w hw).1 10 z with h | h <;> omega
theorem M0 (nms:List Str) (rs:List RD):(F4 nms rs).length=rs.length + 1:=by unfold F4; rw [List.length_cons,Θl]
theorem Mz (N:NM nms) (h:∀r∈rs,InR nms r) (l:rs.length<=12):(O4 nms rs).length<=2000:=by
 have h2:=X9 (sep:=nlS) (fun w hw=>(O1 N h w hw).2) rfl
 have e:O4 nms rs=Str.join nlS (F4 nms rs):=rfl
 rw [<-e,M0] at h2
 omega
theorem Lz (N:NM nms) (W:NW nms):K4 nms=true:=by
 unfold K4
 have h1:=N.l1
 simp only [Bool.and_eq_true,Bool.not_eq_true',decide_eq_true_iff,List.all_eq_true,List.isEmpty_eq_false_iff]
 refine ⟨⟨⟨fun z=>by rw [z] at h1; exact absurd h1 (by decide),N.l7⟩,N.nd⟩,fun w hw=>?_⟩
 unfold S1 Ss
 simp only [Bool.and_eq_true,Bool.not_eq_true',decide_eq_true_iff,List.all_eq_true]
 refine ⟨⟨⟨?_,N.len w hw⟩,W w hw⟩,N.low w hw⟩
 have ne:=N.ne w hw
 have:w.cps.toList.length≠0:=fun z=>ne (List.length_eq_zero_iff.mp z)
 rw [Zz_] at this
 show 1<=w.cps.size
 omega
end
theorem Aal:∀r,r < 26->∀n,n < 8->(Gi r n).all (fun z=>!P4 z)=true:=by decide +kernel
theorem Acu {r n:Nat} (h:r < 26) (hn:n<=7):NW (Gi r n):=fun w hw=>by
 have:=List.all_eq_true.mp (Aal r h n (by omega)) w hw
 simpa using this
theorem Aej {c size at_ n:Nat} (h4:size≠4) (h6:size≠6):NW (evN c size at_ n):=fun w hw=>by
 obtain ⟨k,_,rfl⟩:=Θn hw
 have l:(evS c size at_ k).length=size:=by show (evL c size at_ k).toArray.size=size; rw [Zx_,Jc]
 unfold P4
 rw [Bool.or_eq_false_iff,decide_eq_false_iff_not,decide_eq_false_iff_not]
 refine ⟨fun z=>h6 ?_,fun z=>h4 ?_⟩
 ·rw [<-l,z]; rfl
 ·rw [<-l,z]; rfl
theorem Abj:∀n,n < 6->∃z:Nat,([vN 1,vN 2,vN 3,vN 5,vN 7,vN 8]:List V)[n]? = some (vN z)/\1<=z/\z<=8/\z≠4/\z≠6
 | 0,_=>⟨1,rfl,by decide,by decide,by decide,by decide⟩
 | 1,_=>⟨2,rfl,by decide,by decide,by decide,by decide⟩
 | 2,_=>⟨3,rfl,by decide,by decide,by decide,by decide⟩
 | 3,_=>⟨5,rfl,by decide,by decide,by decide,by decide⟩
 | 4,_=>⟨7,rfl,by decide,by decide,by decide,by decide⟩
 | 5,_=>⟨8,rfl,by decide,by decide,by decide,by decide⟩
noncomputable def Ig:Sp:=fun vs H Q _=>∃c n:Nat,vs=[vN c,vN n]/\1<=n/\n<=7/\∀(nms:List Str) (l:Addr) (H':Hp),NM nms->NW nms->nms.length=n->Same H H'->H l=none->H' l=some (.lst (nms.map V.str))->Q (.ref l) H'
theorem Ug {n:Nat} (h:n<=100000):n < sizeLine:=Nat.lt_of_le_of_lt h (by decide)
section
variable {X:Cx}
theorem T9:MtR X "str.split" (fun x xs H Q=>∃z y:Str,x = .str z/\xs=[.str y]/\(y.length == 0)=false/\z.length<=100000/\(Txt.split z y).length<=1000/\∀D,H D=none->Q (.ref D) (upd H D (.lst ((Txt.split z y).map V.str)))):=by
 intro pins s σ H x xs v us Q I rx rv h
 obtain ⟨z,y,rfl,rfl,hy,hz,hn,q⟩:=h
 obtain ⟨tk,rfl⟩:=rx
 obtain ⟨u,rfl,ru⟩:=rv.one
 obtain ⟨tk2,rfl⟩:=ru
 have fin:∀(l:List (Str × Tok)) (k:Nat),l.map (·.1)=Txt.split z y->EP X pins σ Q (.ref s.heap.objs.size) { s with toks:=k,heap:=s.heap.push { cls:=.type "list",data:=.seq (strValues l).toArray } }:=fun l k e=>by
  refine ⟨.ref s.heap.objs.size,_,I.laid (t':=k) (o:=.lst ((Txt.split z y).map V.str)) (fun b ob q=>Zc_ _ q) (Zd_ _) ?_,rfl,q _ (I.hok.fresh (Zd_ _))⟩
  refine ⟨by rw [Θl]; exact Nat.le_of_lt (D4 hn),strValues l,0,by rw [<-e]; exact Cv l,Zm_ _ rfl⟩
 cases h1:(decide (z.length < y.length) || decide (Builtin.Str.strKind z < Builtin.Str.strKind y))
 ·cases hf:(Builtin.Str.occurrences z y 0 z.length (z.length + 1)).isEmpty
  ·have es:Txt.split z y=Builtin.Str.partsBetween z (Builtin.Str.occurrences z y 0 z.length (z.length + 1)) y.length:=(if_neg (ne_true_of_eq_false h1)).trans (if_neg (ne_true_of_eq_false hf))
   refine call_meets F.slot_str_split (typeIs_str _ _ _) F.entry_str_split (F.args_str_split_2 _ _) (meets_str_split_sep z y tk tk2 h1 hy hf (Nat.le_of_lt (Ug hz)) (by rw [<-es]; exact Nat.le_of_lt (D4 hn))) ?_
   show wants _ _ _ { s with toks:=_,heap:=s.heap.push { cls:=.type "list",data:=.seq (strsFrom s.toks (Builtin.Str.partsBetween z (Builtin.Str.occurrences z y 0 z.length (z.length + 1)) y.length)).toArray } }
   rw [strsFrom_eq]
   exact fin (numbered s.toks _) _ ((numbered_texts _ _).trans es.symm)
  ·have es:Txt.split z y=[z]:=(if_neg (ne_true_of_eq_false h1)).trans (if_pos hf)
   exact call_meets F.slot_str_split (typeIs_str _ _ _) F.entry_str_split (F.args_str_split_2 _ _) (meets_str_split_not_found z y tk tk2 h1 hy hf) (fin [(z,tk)] s.toks es.symm)
 ·have es:Txt.split z y=[z]:=if_pos h1
  exact call_meets F.slot_str_split (typeIs_str _ _ _) F.entry_str_split (F.args_str_split_2 _ _) (meets_str_split_cannot_occur z y tk tk2 h1) (fin [(z,tk)] s.toks es.symm)
end
noncomputable def RWT (K:Θf) (a:Addr):Prop:=∀H:Hp,SqT K H a [V.str N5,V.str Cz]
theorem Vt (z:Str):inV (.str z) [V.str N5,V.str Cz]=P4 z:=by
 have h:=Av (x:=z) (l:=[N5,Cz])
 unfold P4
 rw [show ([V.str N5,V.str Cz]:List V)=[N5,Cz].map V.str from rfl,h,Bool.eq_iff_iff]
 simp
noncomputable def Asc (z:Str):Prop:=z.length<=1000/\∀c∈z.cps.toList,c < 128
noncomputable def Mq:Sp:=fun vs H Q _=>∃z:Str,vs=[.str z]/\Asc z/\∀H',Same H H'->Q (.bl (S1 z)) H'
noncomputable def Ft (K:Θf):Sp:=fun vs H Q _=>∃(wp:Addr) (ws:List Str),vs=[.ref wp]/\SqL K H wp (ws.map V.str)/\ws.length<=300/\(∀w∈ws,Asc w)/\∀H',Same H H'->Q (.bl (K4 ws)) H'
noncomputable def Ab1 (K:Θf):Sp:=fun vs H Q _=>∃(wp:Addr) (ws:List Str),vs=[.ref wp]/\SqL K H wp (ws.map V.str)/\ws.length<=300/\(∀k w,ws[k]? = some w->P4 w=true->(∀v∈ws.take k,P4 v=false)->∀H',Same H H'->Q (vN k) H')/\((∀v∈ws,P4 v=false)->∀H',Same H H'->Q .non H')
noncomputable def R6 (K:Θf):Sp:=fun vs H Q _=>∃(np:Addr) (nms:List Str) (r:Rl),vs=[.ref np,.ref r.r]/\NAt K H np nms/\NM nms/\K8 H r.r r.st r.x r.y/\InR nms r.d/\∀H',Same H H'->Q (.str (E7 nms r.d)) H'
noncomputable def Ee (K:Θf):Sp:=fun vs H Q _=>∃(np rl:Addr) (nms:List Str) (rs:List Rl),vs=[.ref np,.ref rl]/\H np=some (.lst (nms.map V.str))/\NM nms/\SqL K H rl (rs.map fun r=>V.ref r.r)/\RulesAt H nms.length rs/\rs.length<=12/\∀H',Same H H'->Q (.str (O4 nms (rs.map Rl.d))) H'
theorem Fl {H:Hp} {nms:List Str} {rs:List Rl} (h:RulesAt H nms.length rs):∀r∈rs.map Rl.d,InR nms r:=fun r hr=>by
 obtain ⟨k,hk,rfl⟩:=Θn hr
 exact (h k hk).2
theorem Gw {xs:List V} {x:V}:R8 (x :: xs) (some 1) none=xs:=by
 unfold R8
 have e1:HT.sIx (x :: xs).length 0 (some 1)=1:=by unfold HT.sIx; simp
 have e2:HT.sIx (x :: xs).length (x :: xs).length none=(x :: xs).length:=rfl
 rw [e1,e2]
 simp
theorem Vf {A B:List V}:R8 (A++B) none (some (A.length:Int))=A:=by
 unfold R8
 have e1:HT.sIx (A++B).length 0 none=0:=rfl
 have e2:HT.sIx (A++B).length (A++B).length (some (A.length:Int))=A.length:=by rw [HT.sIx_nat,Zv_]; omega
 rw [e1,e2]
 simp
theorem Gv {A B:List V} {w:V}:R8 (A++w :: B) (some ((A.length + 1:Nat):Int)) none=B:=by
 unfold R8
 have e1:HT.sIx (A++w :: B).length 0 (some ((A.length + 1:Nat):Int))=A.length + 1:=by rw [HT.sIx_nat,Zv_,ZA]; omega
 have e2:HT.sIx (A++w :: B).length (A++w :: B).length none=(A++w :: B).length:=rfl
 rw [e1,e2,List.take_of_length_le (by rw [List.length_drop]; exact Zd_ _)]
 simp
noncomputable def Mr (K:Θf):Sp:=fun vs H Q _=>∃(sc:Addr) (ns:List Int) (m:Nat),vs=[.ref sc,vN m]/\SqL K H sc (ns.map V.int)/\1<=m/\m<=7/\
 ∀(rs:List Rl) (p:Addr) (H':Hp),RulesAt H' m rs->rs.length<=12->Same H H'->H p=none->H' p=some (.lst (rs.map fun r=>V.ref r.r))->Q (.ref p) H'
section
variable {prog:Program} {w:World} {A:Around} {E:Value->Shared->Prop} {s:Shared}
end
section
variable {X:Cx} {pins:List (Addr × Obj)} {σ:St} {H:Hp} {s:Shared}
end
section
variable {X:Cx} {K:Θf}
end
theorem No {a n:Nat} {g:TG} {tb:TS} {D:Ends} {σ:St} {H:Hp} (Pv:Nat->St->Hp->Prop) (h0:Pv 0 σ H)
  (hs:∀i σ H,i < n->Pv i σ H->g (vN (a + i)) σ H fun σ2 H2=>tb { D with nx:=Pv (i + 1),ct:=Pv (i + 1),bk:=D.nx } σ2 H2) (hd:∀σ H,Pv n σ H->D.nx σ H) :
  ∃W:Nat->Nat->St->Hp->Prop,(∃m,W 0 m σ H)/\∀i m σ H,W i m σ H->
   ((Itr (a:Int) n).stop i H/\D.nx σ H)\/((Itr (a:Int) n).go i H/\∃N:St->Hp->Prop,(∀σ' H',N σ' H'->∃m',m' < m/\W (i + 1) m' σ' H')/\∀x H',(Itr (a:Int) n).yld i H x H'->g x σ H' fun σ2 H2=>tb { D with nx:=N,ct:=N,bk:=D.nx } σ2 H2):=
 Hg (lo:=(a:Int)) Pv h0 (fun i σ H hi p=>by
  have e:(a:Int) + (i:Int)=((a + i:Nat):Int):=by omega
  rw [e]; exact hs i σ H hi p) hd
theorem Ad3 {n a:Nat}:((n:Int) - (a:Int)).toNat=n - a:=by omega
end L2
namespace Own
open PySem L2
noncomputable def top (i:Nat):Stmt:=PySem.Challenge.pw_splithouse_k85_a_desk_refuses.main.body.getD i (.Pass ⟨0,0,0,0⟩)
section
variable {P:Program} {w:World} {K:Θf} {mg:Str->Option Value} {base:Heap}
seal PySem.wpAny
noncomputable abbrev Adu:Stmt:=top 1
theorem Ae3:FnScope ["some","column"] ["some","column"] (B6 Adu):=⟨rfl,rfl,rfl,by decide +kernel,rfl,by decide +kernel,by decide +kernel⟩
theorem Acz {f:Addr} {fd:FuncData} (F:Fun K "has_column" "has_column" Adu f fd):FnOk P w K mg base CX0 1 f fd ["some","column"] Ab2:=by
 refine F.ok Ae3 (fun vs H Q E h=>?_) (fun cdv A outer s H vs Q E hr h=>?_)
 ·obtain ⟨a,k,rfl,_⟩:=h
  rfl
 ·obtain ⟨a,k,rfl,q⟩:=h
  refine ⟨_,B0 (C2 (N4 op_eq (B8 op_and (B8 op_shr (pv 0) (pv 1)) A9) A9 (D0 _))),?_⟩
  refine ⟨_,rfl,_,rfl,_,_,rfl,rfl,(by omega),_,_,rfl,rfl,rfl,?_⟩
  show Q (V.bl (decide (V.int (Builtin.bitAnd ((a:Int) / 2 ^ (k:Int).toNat) 1)=V.int 1))) H
  rw [Aci]
  exact q
noncomputable abbrev Ra:Stmt:=top 2
theorem Ady:FnScope ["some"] ["some"] (B6 Ra):=⟨rfl,rfl,rfl,by decide +kernel,rfl,by decide +kernel,by decide +kernel⟩
theorem Aan {f fH:Addr} {fd fdH:FuncData} (F:Fun K "columns_of" "columns_of" Ra f fd) (GH:FnOk P w K mg base CX0 1 fH fdH ["some","column"] Ab2) (mH:mg "has_column" = some (.ref fH)) (kH:Θk K fH) (bH:Binds K fdH ["some","column"] []) (zR:mg "range" = none):FnOk P w K mg base CX0 2 f fd ["some"] Fv:=by
 refine F.ok Ady (fun vs H Q E h=>?_) (fun cdv A outer s H vs Q E hr h=>?_)
 ·obtain ⟨a,rfl,_⟩:=h
  rfl
 ·obtain ⟨a,rfl,ha,q⟩:=h
  refine ⟨_,B0 (C2 (G9 (xs:=["column"]) (cs ["some"] (B6 Ra) rfl rfl (by decide +kernel)) rfl (M6 rfl zR (A0 (Adc PySem.F.plainAttrs_int PySem.F.slot_int_bit_length PySem.F.type_int_bit_length Sv (pv 0)) A7))
   (fun _ _ _=>D3 (i:=0) (show (["column","some"]:List Str).Nodup by decide +kernel) rfl (Or.inl rfl)) (fun _ _ _=>Y4 (O2 (C0 GH hr rfl mH kH bH .nil D1 (A0 (pv 1) (A0 (pv 0) A7))))) (fun _ _ _=>pv 0))),?_⟩
  refine ⟨_,rfl,rfl,(a:Int),rfl,rfl,_,rfl,(by omega),?_,?_⟩
  ·have:=Kx ha
   show ((Ej a:Nat):Int) < _
   omega
  ·refine Lr (lo:=0) (k:=((Ej a:Nat):Int).toNat) (n:=1) (fun i acc H'=>H' = H/\acc=((List.range i).filter (Jg a)).map vN) ?_ ⟨rfl,rfl⟩ (fun i acc H' hi h=>?_) (fun i acc H' hi h=>?_) (fun acc H' h=>?_)
   ·have:=Kx ha
    omega
   ·rw [h.2,Θl]
    exact Nat.le_trans (List.length_filter_le _ _) (by simp)
   ·obtain ⟨rfl,rfl⟩:=h
    refine ⟨rfl,_,rfl,_,rfl,a,i,?_,_,rfl,?_⟩
    ·show [vN a,V.int (0 + (i:Int))]=_
     rw [Int.zero_add]; rfl
    ·refine F7 (fun hc=>?_) (fun hc=>?_)
     ·refine ⟨_,rfl,rfl,?_⟩
      rw [He,if_pos hc,Zw_,Int.zero_add]
      rfl
     ·refine ⟨rfl,?_⟩
      rw [He,if_neg hc,List.append_nil]
   ·obtain ⟨rfl,rfl⟩:=h
    intro p hp
    exact q p hp
noncomputable abbrev Adq:Stmt:=top 3
theorem Ae2:FnScope ["many"] ["many"] (B6 Adq):=⟨rfl,rfl,rfl,by decide +kernel,rfl,by decide +kernel,by decide +kernel⟩
theorem Acv {f:Addr} {fd:FuncData} (F:Fun K "all_of" "all_of" Adq f fd):FnOk P w K mg base CX0 1 f fd ["many"] Ed:=by
 refine F.ok Ae2 (fun vs H Q E h=>?_) (fun cdv A outer s H vs Q E hr h=>?_)
 ·obtain ⟨m,rfl,_⟩:=h
  rfl
 ·obtain ⟨m,rfl,hm,q⟩:=h
  refine ⟨_,B0 (C2 (B8 op_sub (B8 op_shl A9 (pv 0)) A9)),?_⟩
  refine ⟨_,rfl,_,_,rfl,rfl,Aee hm,_,_,rfl,rfl,?_⟩
  show Q (V.int (1 * 2 ^ (m:Int).toNat - 1)) H
  have pw:0 < 2 ^ m:=Nat.two_pow_pos m
  have e:(1:Int) * 2 ^ (m:Int).toNat - 1=((2 ^ m - 1:Nat):Int):=by rw [Af1]; omega
  rw [e]
  exact q
noncomputable abbrev Kl:Stmt:=top 4
noncomputable def Gb:Sp:=fun vs H Q _=>∃a b:Nat,vs=[.int (a:Int),.int (b:Int)]/\Q (.bl (decide (a&&&b=a))) H
theorem Yl:FnScope ["one","other"] ["one","other"] (B6 Kl):=⟨rfl,rfl,rfl,by decide +kernel,rfl,by decide +kernel,by decide +kernel⟩
theorem Tn {f:Addr} {fd:FuncData} (F:Fun K "is_within" "is_within" Kl f fd):FnOk P w K mg base CX0 1 f fd ["one","other"] Gb:=by
 refine F.ok Yl (fun vs H Q E h=>?_) (fun cdv A outer s H vs Q E hr h=>?_)
 ·obtain ⟨a,b,rfl,_⟩:=h
  rfl
 ·obtain ⟨a,b,rfl,q⟩:=h
  refine ⟨_,B0 (C2 (N4 op_eq (B8 op_and (pv 0) (pv 1)) (pv 0) (D0 _))),?_⟩
  refine ⟨_,rfl,_,rfl,_,_,rfl,rfl,_,rfl,rfl,?_⟩
  show Q (V.bl (decide (V.int (Builtin.bitAnd (a:Int) (b:Int))=V.int (a:Int)))) H
  rw [Z1,Du]
  have e:(((a&&&b:Nat):Int) == (a:Int))=decide (a&&&b=a):=by
   rw [Bool.eq_iff_iff,beq_iff_eq,decide_eq_true_iff]
   exact Int.ofNat_inj
  rw [e]
  exact q
noncomputable abbrev Rb:Stmt:=top 5
theorem scMore:FnScope ["sets","some","found","inner"] ["sets","some"] (B6 Rb):=⟨rfl,rfl,rfl,by decide +kernel,rfl,by decide +kernel,by decide +kernel⟩
theorem Aar {f fC:Addr} {fd fdC:FuncData} (F:Fun K "with_one_more" "with_one_more" Rb f fd) (GC:FnOk P w K mg base CX0 2 fC fdC ["some"] Fv) (mC:mg "columns_of" = some (.ref fC)) (kC:Θk K fC) (bC:Binds K fdC ["some"] []) (zsorted:mg "sorted" = none):FnOk P w K mg base CX0 3 f fd ["sets","some"] Ro:=by
 refine F.ok scMore (fun vs H Q E h=>?_) (fun cdv A outer s H vs Q E hr h=>?_)
 ·obtain ⟨p,a,i,rfl,_⟩:=h
  rfl
 ·obtain ⟨p,a,i,rfl,ha,hi,hp,q⟩:=h
  have nd:=scMore.nd
  have hr2:Room 2 _:=hr.mono (by decide)
  obtain ⟨c7,cb⟩:=Abu a ha
  have lr:=Dz a ha i (by omega)
  refine ⟨_,(A8 (C3 (i:=2) nd rfl (Or.inl rfl) (D8 A7))
   (A8 (L7 PassesOwn.never rfl (F1 (K:=K) rfl (pv 0)) (D3 (i:=3) nd rfl (Or.inr rfl)) (B0 (P0 (G5 PySem.F.plainAttrs_list PySem.F.slot_list_extend PySem.F.type_list_extend Ch (pv 2) (A0 (G9 (xs:=["column"]) (cs ["sets","some","found","inner"] (B6 Rb) rfl rfl (by decide +kernel)) rfl (F1 (K:=K) rfl (C0 GC hr2 rfl mC kC bC .nil D1 (A0 (pv 1) A7))) (fun _ _ _=>D3 (i:=0) (show (["column","sets","some","found","inner"]:List Str).Nodup by decide +kernel) rfl (Or.inl rfl)) (fun _ _ _=>(Y4 (C5 Ci (B8 O9 A9 (pv 0)) (pv 4) (D0 _)))) (fun _ _ _=>(B8 Ju (pv 4) (B8 O9 A9 (pv 0))))) A7)))))
   (B0 (C2 (D7 (Iz (K:=K) rfl) (by rfl) zsorted PyProof.Rows.boot_sorted (A0 (pv 2) A7)))))),?_⟩
  refine ⟨Zp_ _,fun fp hfp=>?_⟩
  have s0:=Same.new (o:=.lst []) hfp
  refine ⟨_,rfl,p,rfl,⟨_,SqL.of (s0 _ _ hp)⟩,P3 (K:=K) (xs:=(M9 a i).map vN) (fun j σ H'=>(∃v3:Option V,σ=[some (.ref p),some (vN a),some (.ref fp),v3])/\Same H H'/\H' fp=some (.lst ((W2 a ((M9 a i).take j)).map vN))) ⟨⟨_,rfl⟩,s0,A6⟩ (fun j σ H' _ h=>SqL.of (h.2.1 _ _ hp)) ?_ ?_⟩
  ·rintro j v σ H1 hv ⟨⟨v3,rfl⟩,s1,hf1⟩
   rw [Θg] at hv
   cases ex:(M9 a i)[j]? with
   | none=>rw [ex] at hv; cases hv
   | some x=>
    rw [ex] at hv
    obtain rfl:=(Θo hv).symm
    refine ⟨_,rfl,.inl ⟨rfl,_,SqL.of hf1⟩,_,rfl,a,rfl,by omega,fun cp hcp=>⟨cp,rfl,⟨_,SqL.of A6⟩,?_⟩⟩
    have sC:=Same.new (o:=.lst ((E1 a).map vN)) hcp
    have hcp2:(upd H1 cp (.lst ((E1 a).map vN))) cp=some (.lst ((E1 a).map vN)):=A6
    generalize upd H1 cp (.lst ((E1 a).map vN))=H2 at sC hcp2
    refine N3 (K:=K) (xs:=(E1 a).map vN) (fun k acc H3=>H3=H2/\acc=((((E1 a).take k).filter fun c=>decide (x < 2 ^ c)).map fun c=>x|||2 ^ c).map vN) (by rw [Θl]; omega) ⟨rfl,rfl⟩ (fun k acc H3 hk h=>?_) (fun k u acc H3 hu h=>?_) (fun acc H3 h=>?_)
    ·obtain ⟨rfl,rfl⟩:=h
     exact ⟨SqL.of hcp2,by rw [Θl,Θl]; exact Zo_ (List.length_filter_le _ _) (List.length_take_le _ _)⟩
    ·obtain ⟨rfl,rfl⟩:=h
     rw [Θg] at hu
     cases ec:(E1 a)[k]? with
     | none=>rw [ec] at hu; cases hu
     | some c=>
      rw [ec] at hu
      obtain rfl:=(Θo hu).symm
      have c1:c < 7:=Zj_ (List.all_eq_true.mp cb c (Θe ec))
      have et:((E1 a).take (k + 1)).filter (fun c=>decide (x < 2 ^ c))=((E1 a).take k).filter (fun c=>decide (x < 2 ^ c))++[c].filter (fun c=>decide (x < 2 ^ c)):=by rw [List.take_succ,ec,<-List.filter_append]; rfl
      refine ⟨rfl,_,rfl,c,rfl,rfl,by omega,_,rfl,2 ^ c,x,rfl,rfl,_,rfl,F7 (fun hb=>?_) (fun hb=>?_)⟩
      ·refine ⟨_,rfl,_,rfl,c,rfl,rfl,by omega,x,2 ^ c,rfl,rfl,rfl,?_⟩
       rw [et,List.filter_cons_of_pos (p:=fun c=>decide (x < 2 ^ c)) hb,Zw_,Zw_]; rfl
      ·refine ⟨rfl,?_⟩
       rw [et,List.filter_cons_of_neg (p:=fun c=>decide (x < 2 ^ c)) hb,List.filter_nil,List.append_nil]
    ·obtain ⟨rfl,rfl⟩:=h
     rw [Θl,List.take_length]
     intro ep hep
     have sE:=Same.new (o:=.lst (((((E1 a).filter fun c=>decide (x < 2 ^ c)).map fun c=>x|||2 ^ c)).map vN)) hep
     have hf3:=(sC.trans sE) _ _ hf1
     have lm:=Hq a ha ((M9 a i).take j)
     have lt:((M9 a i).take j).length<=(M9 a i).length:=List.length_take_le' j _
     have lu:=Nb a x ha
     refine ⟨fp,ep,_,_,rfl,rfl,hf3,A6,Nat.le_of_lt (D4 ?_),?_⟩
     ·rw [Θl,Θl]
      have:(((E1 a).filter fun c=>decide (x < 2 ^ c)).map fun c=>x|||2 ^ c).length<=7:=lu
      omega
     ·refine ⟨⟨_,rfl⟩,(s1.trans (sC.trans sE)).own3 hfp,?_⟩
      rw [A6,Oa ex,Zw_]
      rfl
  ·rintro σ H1 ⟨⟨v3,rfl⟩,s1,hf1⟩
   rw [Θl,List.take_length] at hf1
   have mi:=Jl (W2 a (M9 a i))
   have l64:((W2 a (M9 a i)).map fun (k:Nat)=>(k:Int)).length < 64:=by
    rw [Θl,(List.isPerm_iff.mp (Hr a ha i hi)).length_eq]
    have:=Dz a ha (i + 1) (by omega)
    omega
   refine ⟨_,rfl,fp,(W2 a (M9 a i)).map fun (k:Nat)=>(k:Int),rfl,SqL.of (by rw [mi]; exact hf1),l64,fun l ns' hl pm pw=>?_⟩
   rw [Adn ha hi pm pw,Jl]
   exact q l _ (s1.trans (Same.new hl)) (s1.free hl) A6
noncomputable abbrev Pd:Stmt:=top 6
theorem scSetsW:FnScope ["some","found","level"] ["some"] (B6 Pd):=⟨rfl,rfl,rfl,by decide +kernel,rfl,by decide +kernel,by decide +kernel⟩
theorem Xi {f fMO:Addr} {fd fdMO:FuncData} (F:Fun K "sets_within" "sets_within" Pd f fd) (GMO:FnOk P w K mg base CX0 3 fMO fdMO ["sets","some"] Ro) (mMO:mg "with_one_more" = some (.ref fMO)) (kMO:Θk K fMO) (bMO:Binds K fdMO ["sets","some"] []):FnOk P w K mg base CX0 7 f fd ["some"] Rq:=by
 refine F.ok scSetsW (fun vs H Q E h=>?_) (fun cdv A outer s H vs Q E hr h=>?_)
 ·obtain ⟨a,rfl,_⟩:=h
  rfl
 ·obtain ⟨a,rfl,ha,q⟩:=h
  have nd:=scSetsW.nd
  have hr3:Room 3 _:=hr.mono (by decide)
  refine ⟨_,(A8 (C3 (i:=1) nd rfl (Or.inl rfl) (D8 A7))
   (A8 (C3 (i:=2) nd rfl (Or.inl rfl) (D8 (A0 A9 A7)))
   (A8 (Fi PassesOwn.never (C5 (Aaz (K:=K) rfl hr.units) (pv 2) (D8 A7) (D0 _)) (A8 (P0 (G5 PySem.F.plainAttrs_list PySem.F.slot_list_extend PySem.F.type_list_extend Ch (pv 1) (A0 (pv 2) A7)))
   (B0 (C3 (i:=2) nd rfl (Or.inl rfl) (C0 GMO hr3 rfl mMO kMO bMO .nil D1 (A0 (pv 2) (A0 (pv 0) A7)))))))
   (B0 (C2 (pv 1)))))),?_⟩
  refine ⟨Zp_ _,fun p hp=>?_⟩
  have s0:=Same.new (o:=.lst []) hp
  refine ⟨(by show 1<=sizeLine; decide),fun l0 hl0=>?_⟩
  have s1:=Same.new (o:=.lst [V.int 0]) hl0
  have hp1:(upd (upd H p (.lst [])) l0 (.lst [V.int 0])) p=some (.lst []):=s1 _ _ A6
  have hl1:(upd (upd H p (.lst [])) l0 (.lst [V.int 0])) l0=some (.lst ((M9 a 0).map vN)):=by rw [A6,Ya a ha]; rfl
  have n1:p≠l0:=C4 (show (upd H p (.lst [])) p=_ from A6) hl0
  refine ⟨fun n σ H'=>∃(i:Nat) (lp:Addr),σ=[some (vN a),some (.ref p),some (.ref lp)]/\n=8 - i/\i<=8/\Same H H'/\p≠lp/\H' p=some (.lst ((Dr a i).map vN))/\H' lp=some (.lst ((M9 a i).map vN)),⟨_,0,l0,rfl,rfl,by omega,s0.trans s1,n1,hp1,hl1⟩,?_⟩
  rintro n _ H1 ⟨i,lp,rfl,en,hi,s2,nn,hp2,hl2⟩
  have mi:=Jl (M9 a i)
  refine ⟨_,rfl,Zp_ _,fun np hnp=>?_⟩
  have sN:=Same.new (o:=.lst []) hnp
  refine ⟨lp,np,(M9 a i).map fun (k:Nat)=>(k:Int),[],rfl,rfl,SqL.of (by rw [mi]; exact sN _ _ hl2),SqL.of A6,_,rfl,?_⟩
  have hp3:=sN _ _ hp2
  have hl3:=sN _ _ hl2
  have s3:=s2.trans sN
  generalize upd H1 np (.lst [])=H3 at hp3 hl3 s3
  rw [if_pos rfl]
  refine F7 (fun hb=>?_) (fun hb=>?_)
  ·have hne:M9 a i≠[]:=fun z=>by
    rw [z] at hb
    cases hb
   have hi8:i < 8:=by
    rcases Nat.lt_or_ge i 8 with h | h
    ·exact h
    ·have:i=8:=by omega
     rw [this,Xz a ha] at hne
     exact absurd rfl hne
   have ld:=Vj a i ha (by omega)
   have lr:=Dz a ha i (by omega)
   refine ⟨_,fun _ _ h=>h,?_⟩
   refine ⟨_,rfl,.inl ⟨rfl,_,SqL.of hp3⟩,_,rfl,p,lp,_,_,rfl,rfl,hp3,hl3,Nat.le_of_lt (D4 (by rw [Θl,Θl]; omega)),?_⟩
   have hl4:(upd H3 p (.lst ((Dr a i).map vN++(M9 a i).map vN))) lp=some (.lst ((M9 a i).map vN)):=by rw [C8 nn.symm]; exact hl3
   have hp4:(upd H3 p (.lst ((Dr a i).map vN++(M9 a i).map vN))) p=some (.lst ((Dr a (i + 1)).map vN)):=by rw [A6,Gz,Zw_]
   have s4:Same H (upd H3 p (.lst ((Dr a i).map vN++(M9 a i).map vN))):=s3.own3 hp
   generalize upd H3 p (.lst ((Dr a i).map vN++(M9 a i).map vN))=H4 at hl4 hp4 s4
   refine ⟨_,rfl,_,rfl,lp,a,i,rfl,ha,hi8,hl4,fun l H5 s5 hl50 hl5=>?_⟩
   exact ⟨8 - (i + 1),by omega,i + 1,l,rfl,rfl,by omega,s4.trans s5,C4 hp4 hl50,s5 _ _ hp4,hl5⟩
  ·have hz:M9 a i=[]:=by
    cases z:M9 a i with
    | nil=>rfl
    | cons x xs=>exact absurd (by rw [z]; rfl) hb
   rw [Abc a ha i (by omega) hz] at hp3
   exact ⟨_,rfl,q p _ s3 hp hp3⟩
end
end Own
namespace L2
open PySem PySem.Spec PyProof.Rows
section
variable {X:Cx} {K:Θf} {pins:List (Addr × Obj)} {σ:St} {H:Hp} {s:Shared}
end
section
variable {prog:Program} {w:World} {A:Around} {E:Value->Shared->Prop} {s:Shared}
theorem Uq {z TI TO a b p q:Addr} {i:Nat} {xs ys:Array Value} {x y u v:Value} {Q:Value->Shared->Prop} (D:ZipApart z TI TO a b p q)
  (hZ:IsZip s.heap z TI TO .none) (hI:IsPair s.heap TI (.ref a) (.ref b)) (hO:IsPair s.heap TO u v)
  (ha:s.heap.IsTupleIter a p i) (hb:s.heap.IsListIter b q i) (hp:s.heap.IsTuple p xs) (hq:s.heap.IsList q ys) (ex:xs[i]? = some x) (ey:ys[i]? = some y)
  (k:∀g,IsZip g z TI TO (rawInt s.heap.objs.size)->IsPair g TO x y->g.IsTupleIter a p (i + 1)->g.IsListIter b q (i + 1)->IsPair g s.heap.objs.size x y->
   (∀c o,c≠z->c≠TO->c≠a->c≠b->s.heap.get? c=some o->g.get? c=some o)->Q (.ref s.heap.objs.size) { s with heap:=g }) :
  wpAny (model prog w) A (Builtin.«zip.__next__» ⟨[.ref z],[]⟩) (fun fin s'=>∃r,fin = .done (.ret r)/\Q r s') E s:=by
 refine Za_ (m:=field (.ref z) 2) (wpAny_field hZ rfl (x:=.bool false) rfl ?_)
 refine Za_ (m:=field (.ref z) 3) (wpAny_field hZ rfl (x:=.ref TI) rfl (Za_ (wpAny_seqItems hI rfl ?_)))
 refine Za_ (m:=Builtin.SmallTypes.ownedTupleIsFree (.ref z)) ?_
 unfold Builtin.SmallTypes.ownedTupleIsFree
 refine Za_ (wpAny_field hZ rfl (x:=.none) rfl (Zb_ ?_))
 simp only [if_true]
 refine wpAny_bind (wpAny_rule (wpAny_bind (wpAny_field hZ rfl (x:=.ref TO) rfl (wpAny_bind (wpAny_setField_rec hZ (by simp) fun g1 z1 k1=>?_)))))
 replace z1:IsZip g1 z TI TO .ellipsis:=z1
 refine Za_ ?_
 simp only [List.zipIdx_cons,List.zipIdx_nil,List.forIn_cons,List.forIn_nil]
 refine Za_ (Za_ (wpAny_onRaise (Za_ (m:=Builtin.SmallTypes.nextOf (.ref a)) (Aeh (ha.extBut k1.extBut D.i1z) (hp.extBut k1.extBut D.l1z) ex fun g2 a2 k2=>Zb_ ?_))))
 have o2:IsPair g2 TO u v:=k2.extBut _ _ D.TOi1 (k1.extBut _ _ D.TOz hO)
 refine Za_ (wpAny_seqItems o2 rfl (Za_ (wpAny_updateSeq_pair o2 fun g3 o3 k3=>Za_ (wpAny_letGo (Zb_ ?_)))))
 replace o3:IsPair g3 TO x v:=o3
 have b3:=((hb.extBut k1.extBut D.i2z).extBut k2.extBut D.i12.symm).extBut k3.extBut D.TOi2.symm
 have q3:=((hq.extBut k1.extBut D.l2z).extBut k2.extBut D.l2i1).extBut k3.extBut D.l2TO
 refine Za_ (Za_ (wpAny_onRaise (Za_ (m:=Builtin.SmallTypes.nextOf (.ref b)) (wpAny_nextOf_list_item b3 q3 ey fun g4 b4 k4=>Zb_ ?_))))
 have o4:IsPair g4 TO x v:=k4.extBut _ _ D.TOi2 o3
 refine Za_ (wpAny_seqItems o4 rfl (Za_ (wpAny_updateSeq_pair o4 fun g5 o5 k5=>Za_ (wpAny_letGo (Zb_ (Zb_ ?_))))))
 replace o5:IsPair g5 TO x y:=o5
 refine Za_ (wpAny_seqItems o5 rfl (Za_ (wpAny_newTuple ?_)))
 have sz:g5.objs.size=s.heap.objs.size:=by rw [k5.1,k4.1,k3.1,k2.1,k1.1]
 have z5:IsZip g5 z TI TO .ellipsis:=k5.extBut _ _ D.TOz.symm (k4.extBut _ _ D.i2z.symm (k3.extBut _ _ D.TOz.symm (k2.extBut _ _ D.i1z.symm z1)))
 have a5:=((a2.extBut k3.extBut D.TOi1.symm).extBut k4.extBut D.i12).extBut k5.extBut D.TOi1.symm
 have b5:=b4.extBut k5.extBut D.TOi2.symm
 have lz:z≠g5.objs.size:=Zs_ (Zn_ z5)
 refine Za_ (m:=Builtin.SmallTypes.ownedTupleHandOut (.ref z) (.ref g5.objs.size)) ?_
 unfold Builtin.SmallTypes.ownedTupleHandOut
 have z6:IsZip (g5.push { cls:=.type "tuple",data:=.seq #[x,y] }) z TI TO .ellipsis:=Zc_ _ z5
 refine wpAny_bind (wpAny_setField_rec z6 (by simp) fun g7 z7 k7=>?_)
 replace z7:IsZip g7 z TI TO (rawInt g5.objs.size):=z7
 refine wpAny_setField_rec z7 (by simp) fun g8 z8 k8=>?_
 replace z8:IsZip g8 z TI TO (rawInt g5.objs.size):=z8
 have up:∀c o,c≠z->g5.get? c=some o->g8.get? c=some o:=fun c o n e=>k8.extBut _ _ n (k7.extBut _ _ n (Zc_ _ e))
 have t8:IsPair g8 g5.objs.size x y:=k8.extBut _ _ lz.symm (k7.extBut _ _ lz.symm (Zm_ _ rfl))
 rw [sz] at z8 t8
 refine Zb_ ⟨.ref g5.objs.size,rfl,?_⟩
 rw [sz]
 refine k g8 z8 (up _ _ D.TOz o5) (a5.at fun o e=>up _ o D.i1z e) (b5.at fun o e=>up _ o D.i2z e) t8 fun c o n1 n2 n3 n4 e=>up c o n1 ?_
 exact k5.extBut _ _ n2 (k4.extBut _ _ n4 (k3.extBut _ _ n2 (k2.extBut _ _ n3 (k1.extBut _ _ n1 e))))
theorem Ob {z TI TO a b p q:Addr} {i:Nat} {xs ys:Array Value} {x y u v:Value} {Q:Option Value->Shared->Prop} (D:ZipApart z TI TO a b p q)
  (hZ:IsZip s.heap z TI TO .none) (hI:IsPair s.heap TI (.ref a) (.ref b)) (hO:IsPair s.heap TO u v)
  (ha:s.heap.IsTupleIter a p i) (hb:s.heap.IsListIter b q i) (hp:s.heap.IsTuple p xs) (hq:s.heap.IsList q ys) (ex:xs[i]? = some x) (ey:ys[i]? = some y)
  (k:∀g,IsZip g z TI TO (rawInt s.heap.objs.size)->IsPair g TO x y->g.IsTupleIter a p (i + 1)->g.IsListIter b q (i + 1)->IsPair g s.heap.objs.size x y->
   (∀c o,c≠z->c≠TO->c≠a->c≠b->s.heap.get? c=some o->g.get? c=some o)->Q (some (.ref s.heap.objs.size)) { s with heap:=g }):wpAny (model prog w) A (pyNext (.ref z)) Q E s:=by
 have ty:s.TypeIs (.ref z) "zip":=⟨_,hZ,rfl⟩
 unfold pyNext
 refine Za_ (wpAny_attempt (wpAny_callSpecial?_slot (name:=Str.ofString "__next__") ty F.slot_zip_next (wpAny_call_entry F.slot_zip_next ty F.entry_zip_next ?_ (F.args_zip_next_1 _))))
 exact Uq D hZ hI hO ha hb hp hq ex ey fun g c1 c2 c3 c4 c5 c6=>Zb_ (k g c1 c2 c3 c4 c5 c6)
noncomputable def zm1 (h:Heap) (p:Addr):Heap:=h.push { cls:=.type "tuple_iterator",data:=.fields #[.ref p,.int 0 0] }
noncomputable def zm2 (h:Heap) (p q:Addr):Heap:=(zm1 h p).push { cls:=.type "list_iterator",data:=.fields #[.ref q,.int 0 0] }
noncomputable def zm3 (h:Heap) (p q:Addr):Heap:=(zm2 h p q).push { cls:=.type "tuple",data:=.seq #[.ref h.objs.size,.ref (zm1 h p).objs.size] }
noncomputable def zm4 (h:Heap) (p q:Addr):Heap:=(zm3 h p q).push { cls:=.type "tuple",data:=.seq #[.none,.none] }
noncomputable def zm5 (h:Heap) (p q:Addr):Heap:=(zm4 h p q).push { cls:=.type "zip",data:=.fields #[.none,.bool false,.bool false,.ref (zm2 h p q).objs.size,.ref (zm3 h p q).objs.size] }
theorem Afu (p q:Addr) (xs ys:Array Value) :
  Meets (Builtin.«zip.__new__» ⟨[.type "zip",.ref p,.ref q],[]⟩) (fun _ R s=>s.heap.IsTuple p xs/\s.heap.IsList q ys/\R (.ok (.ret (.ref (zm4 s.heap p q).objs.size))) { s with heap:=zm5 s.heap p q }):=
 .of_wp fun prog w A R s h=>by
  obtain ⟨hp,g,d,tk,os⟩:=s
  obtain ⟨t1,t2,h⟩:=h
  have su:=sub_zip
  have T1:Heap.IsTuple (Shared.heap ⟨hp,g,d,tk,os⟩) p xs:=t1
  have T2:Heap.IsList (Shared.heap ⟨hp.push { cls:=.type "tuple_iterator",data:=.fields #[.ref p,.int 0 0] },g,d,tk,os⟩) q ys:=Heap.IsList.push t2 _
  wp_walk using wpAny_pyIter_tuple T1,wpAny_pyIter_list T2
  exact ⟨_,rfl,h⟩
theorem Aed {p q:Addr} {xs ys:Array Value} {Q:Value->Shared->Prop} (hp:s.heap.IsTuple p xs) (hq:s.heap.IsList q ys)
  (k:∀g z TI TO a b,s.heap.objs.size<=z->s.heap.objs.size<=TI->s.heap.objs.size<=TO->s.heap.objs.size<=a->s.heap.objs.size<=b->ZipApart z TI TO a b p q->IsZip g z TI TO .none->IsPair g TI (.ref a) (.ref b)->IsPair g TO .none .none->g.IsTupleIter a p 0->g.IsListIter b q 0->
   (∀c o,s.heap.get? c=some o->g.get? c=some o)->Q (.ref z) { s with heap:=g }):wpAny (model prog w) A (call (.type "zip") [.ref p,.ref q]) Q E s:=by
 refine callType_new F.called_zip (by decide) (F.typeCall_zip_2 _ _) (F.newCall_zip_2 _ _) (fun obj=>F.args_object_init_3 obj _ _) F.entry_zip_new (Afu p q xs ys) ⟨hp,hq,?_⟩
 have n1:(zm1 s.heap p).objs.size=s.heap.objs.size + 1:=Heap.size_push ..
 have n2:(zm2 s.heap p q).objs.size=s.heap.objs.size + 2:=(Heap.size_push ..).trans (by rw [n1])
 have n3:(zm3 s.heap p q).objs.size=s.heap.objs.size + 3:=(Heap.size_push ..).trans (by rw [n2])
 have n4:(zm4 s.heap p q).objs.size=s.heap.objs.size + 4:=(Heap.size_push ..).trans (by rw [n3])
 have u4:∀c o,(zm4 s.heap p q).get? c=some o->(zm5 s.heap p q).get? c=some o:=fun c o e=>Zc_ _ e
 have u3:∀c o,(zm3 s.heap p q).get? c=some o->(zm5 s.heap p q).get? c=some o:=fun c o e=>u4 c o (Zc_ _ e)
 have u2:∀c o,(zm2 s.heap p q).get? c=some o->(zm5 s.heap p q).get? c=some o:=fun c o e=>u3 c o (Zc_ _ e)
 have u1:∀c o,(zm1 s.heap p).get? c=some o->(zm5 s.heap p q).get? c=some o:=fun c o e=>u2 c o (Zc_ _ e)
 have f5:(zm5 s.heap p q).get? (zm4 s.heap p q).objs.size=some { cls:=.type "zip",data:=.fields #[.none,.bool false,.bool false,.ref (zm2 s.heap p q).objs.size,.ref (zm3 s.heap p q).objs.size] }:=Zm_ _ rfl
 have f4:(zm5 s.heap p q).get? (zm3 s.heap p q).objs.size=some { cls:=.type "tuple",data:=.seq #[.none,.none] }:=u4 _ _ (Zm_ _ rfl)
 have f3:(zm5 s.heap p q).get? (zm2 s.heap p q).objs.size=some { cls:=.type "tuple",data:=.seq #[.ref s.heap.objs.size,.ref (zm1 s.heap p).objs.size] }:=u3 _ _ (Zm_ _ rfl)
 have f2:(zm5 s.heap p q).get? (zm1 s.heap p).objs.size=some { cls:=.type "list_iterator",data:=.fields #[.ref q,.int 0 0] }:=u2 _ _ (Zm_ _ rfl)
 have f1:(zm5 s.heap p q).get? s.heap.objs.size=some { cls:=.type "tuple_iterator",data:=.fields #[.ref p,.int 0 0] }:=u1 _ _ (Zm_ _ rfl)
 have lp:p < s.heap.objs.size:=by obtain ⟨_,e,_⟩:=hp; exact Zn_ e
 have lq:q < s.heap.objs.size:=by obtain ⟨_,e,_⟩:=hq; exact Zn_ e
 rw [n2,n3,n4] at f5
 rw [n1,n2] at f3
 rw [n3] at f4
 rw [n1] at f2
 rw [n4]
 exact ⟨⟨_,f5,rfl⟩,k _ _ _ _ _ _ (by omega) (by omega) (by omega) (by omega) (by omega) (zipApart_new lp lq) f5 f3 f4 ⟨_,f1,rfl,rfl⟩ ⟨_,f2,rfl,rfl⟩ fun c o e=>u1 c o (Zc_ _ e)⟩
end
section
variable {X:Cx} {pins:List (Addr × Obj)} {σ:St} {H:Hp} {s:Shared}
noncomputable def Zk (K:Θf) (p q:Addr):It:=
 ⟨fun i H=>∃xs ys x y,SqT K H p xs/\SqL K H q ys/\xs[i]? = some x/\ys[i]? = some y,
  fun i H v H'=>∃t x y,v = .ref t/\H t=none/\(∀xs,SqT K H p xs->xs[i]? = some x)/\(∀ys,SqL K H q ys->ys[i]? = some y)/\H' = upd H t (.tup [x,y]),
  fun i H=>∃xs ys,SqT K H p xs/\SqL K H q ys/\xs.length<=i⟩
noncomputable def tnM (z TI TO a b p q:Addr) (i:Nat) (h:Heap):Prop:=IsZip h z TI TO .none/\IsPair h TI (.ref a) (.ref b)/\(∃u v,IsPair h TO u v)/\h.IsTupleIter a p i/\h.IsListIter b q i
theorem Uo {P:Program} {w:World} {K:Θf} {es:List Expr} {n:Nat} {tp:Pos} {z TI TO a b p q:Addr} (D:ZipApart z TI TO a b p q):Turn P w K (.Tuple es n tp) (Zk K p q) [z,TI,TO,a,b] z (tnM z TI TO a b p q) where
 mem:=by simp
 obj:=fun i h st c hc=>by
  obtain ⟨hZ,hI,⟨u,v,hO⟩,⟨oa,ea,_,da⟩,⟨ob,eb,_,db⟩⟩:=st
  simp only [List.mem_cons,List.not_mem_nil,or_false] at hc
  rcases hc with rfl | rfl | rfl | rfl | rfl
  ·exact ⟨_,hZ,fun v r=>by cases r⟩
  ·exact ⟨_,hI,fun v r=>by cases r⟩
  ·exact ⟨_,hO,fun v r=>by cases r⟩
  ·exact ⟨_,ea,fun v r=>by rw [da] at r; cases r⟩
  ·exact ⟨_,eb,fun v r=>by rw [db] at r; cases r⟩
 keep:=fun i h h' st k=>by
  obtain ⟨hZ,hI,⟨u,v,hO⟩,ha,hb⟩:=st
  exact ⟨k z (by simp) _ hZ,k TI (by simp) _ hI,⟨u,v,k TO (by simp) _ hO⟩,ha.at fun o e=>k a (by simp) o e,hb.at fun o e=>k b (by simp) o e⟩
 item:=by
  intro X hP hw hK hc i pins s σ H E I hf st hg
  subst hP hw hK
  obtain ⟨xs,ys,x,y,hx,hy,ex,ey⟩:=hg
  obtain ⟨hZ,hI,⟨u,v,hO⟩,ha,hb⟩:=st
  obtain ⟨i1,r1,t1,_⟩:=I.tuple hx
  obtain ⟨i2,r2,t2,_⟩:=I.list hy
  obtain ⟨x',ex',rx⟩:=r1.get ex
  obtain ⟨y',ey',ry⟩:=r2.get ey
  refine Ob D hZ hI hO ha hb (show s.heap.IsTuple p i1.toArray from t1) t2.isList (x:=x') (y:=y') (by simpa using ex') (by simpa using ey') fun g c1 c2 c3 c4 c5 c6=>⟨_,rfl,?_⟩
  refine wpAny_letOwnedTupleGo_zip c1 fun g' z' k'=>?_
  have nT:H s.heap.objs.size=none:=I.fresh
  have lz:s.heap.objs.size≠z:=Nat.ne_of_gt (Zn_ hZ)
  have IA:Inv X pins σ (upd H s.heap.objs.size (.tup [x,y])) { s with heap:=s.heap.push { cls:=.type "tuple",data:=.seq #[x',y'] } }:=
   I.laid (t':=s.toks) (fun c o e=>Zc_ _ e) (Zd_ _) (show ObjOk X.prog X.w _ _ _ (.tup [x,y]) from ⟨by show 2<=sizeLine; decide,[x',y'],.cons rx (.cons ry .nil),⟨_,Zm_ _ rfl,rfl,_,rfl⟩⟩)
  have fp:∀c∈[z,TI,TO,a,b],FpOk X pins (upd H s.heap.objs.size (.tup [x,y])) c:=fun c hc'=>by
   obtain ⟨f0,f1,f2,f3,f4,f5⟩:=hf c hc'
   refine ⟨?_,f1,f2,f3,f4,f5⟩
   rw [C8]
   ·exact f0
   ·have lt:c < s.heap.objs.size:=by
     simp only [List.mem_cons,List.not_mem_nil,or_false] at hc'
     rcases hc' with rfl | rfl | rfl | rfl | rfl
     ·exact Zn_ hZ
     ·exact Zn_ hI
     ·exact Zn_ hO
     ·obtain ⟨_,e,_⟩:=ha; exact Zn_ e
     ·obtain ⟨_,e,_⟩:=hb; exact Zn_ e
    exact Zs_ lt
  have IB:Inv X pins σ (upd H s.heap.objs.size (.tup [x,y])) { s with heap:=g' }:=by
   refine IA.turnedL (t':=s.toks) (h':=g') (fun c o hc' e=>?_) fp
   simp only [List.mem_cons,List.not_mem_nil,or_false,not_or] at hc'
   refine k'.extBut _ _ hc'.1 ?_
   by_cases hcT:c=s.heap.objs.size
   ·subst hcT
    have e1:(s.heap.push { cls:=.type "tuple",data:=.seq #[x',y'] }).get? s.heap.objs.size=some { cls:=.type "tuple",data:=.seq #[x',y'] }:=Zm_ _ rfl
    have e2:=e1.symm.trans e
    rw [<-Θo e2]
    exact c5
   ·exact c6 c o hc'.1 hc'.2.2.1 hc'.2.2.2.1 hc'.2.2.2.2 (by
     have e1:(s.heap.push { cls:=.type "tuple",data:=.seq #[x',y'] }).get? c=s.heap.get? c:=Heap.get?_push_ne _ _ _ hcT
     rw [<-e1]; exact e)
  refine ⟨.ref s.heap.objs.size,_,IB,rfl,⟨_,x,y,rfl,nT,fun zs hz=>by rw [I.tuple_inj hz hx]; exact ex,fun zs hz=>by rw [I.list_inj hz hy]; exact ey,rfl⟩,⟨z',k'.extBut _ _ D.TIz (c6 _ _ D.TIz D.TITO D.TIi1 D.TIi2 hI),⟨_,_,k'.extBut _ _ D.TOz c2⟩,c3.extBut k'.extBut D.i1z,c4.extBut k'.extBut D.i2z⟩,fun c hc'=>(fp c hc').1⟩
 done:=by
  intro X hP hw hK hc i pins s σ H E I hf st hg
  subst hP hw hK
  obtain ⟨xs,ys,hx,hy,hl⟩:=hg
  obtain ⟨hZ,hI,_,ha,hb⟩:=st
  obtain ⟨i1,r1,t1,_⟩:=I.tuple hx
  have len:=r1.length
  refine Sy (I.ok.hd hc) D hZ hI ha (show s.heap.IsTuple p i1.toArray from t1) (by simp; omega) fun g hk=>⟨rfl,?_⟩
  refine I.turnedL (t':=s.toks) (h':=g) (ch:=[z,TI,TO,a,b]) (fun c o hc' e=>?_) hf
  simp only [List.mem_cons,List.not_mem_nil,or_false,not_or] at hc'
  exact hk c o hc'.1 hc'.2.2.2.1 e
 self:=fun _ _ _ _ _ st h=>wpAny_pyIter_zip st.1 h
noncomputable def Aeq (K:Θf) (ta:TA):TI:=fun σ H R=>ta σ H fun vs H1=>∃(p q:Addr) (xs ys:List V),vs=[.ref p,.ref q]/\SqT K H1 p xs/\SqL K H1 q ys/\R (Zk K p q) H1
theorem Qv {K:Θf} {es:List Expr} {n:Nat} {tp:Pos} {e1 e2:Expr} {ta:TA} {np pos:Pos} (hK:X.K=K) (hg:Gl X "zip") (hm:X.mg "zip" = none) (ha:PA X [e1,e2] ta)
  (hs:starEach [e1,e2] X.env=[(false,eval e1 X.env),(false,eval e2 X.env)]:=by rfl) (hs2:starEach [e2] X.env=[(false,eval e2 X.env)]:=by rfl) :
  PI X (.Tuple es n tp) (.Call (.Name "zip" np) [e1,e2] [] pos) (Aeq K ta):=by
 subst hK
 intro pins s σ H R I h
 refine Call_ (Z7 I hg hm boot_zip (PyProof.Rows.callWith_type1 (thn (ha pos pins s σ H _ I h) fun us s1 ⟨vs,H1,I1,r1,q1⟩=>?_) (by rw [hs,hs2]) (by rw [hs2]; rfl)))
 obtain ⟨p,q,xs,ys,rfl,hp,hq,r⟩:=q1
 obtain ⟨u1,u2,rfl,ru1,ru2⟩:=Ru r1
 cases ru1; cases ru2
 obtain ⟨i1,v1,t1,_⟩:=I1.tuple hp
 obtain ⟨i2,v2,t2,_⟩:=I1.list hq
 refine Aed (show s1.heap.IsTuple p i1.toArray from t1) t2.isList fun g z TI TO a b l1 l2 l3 l4 l5 D hZ hI hO ha' hb' hk=>?_
 refine wpAny_pyIter_zip hZ ⟨z,[z,TI,TO,a,b],tnM z TI TO a b p q,Zk X.K p q,H1,rfl,I1.kept (t':=s1.toks) hk,Uo D,⟨hZ,hI,⟨_,_,hO⟩,ha',hb'⟩,fun c hc=>?_,r⟩
 have lc:s1.heap.objs.size<=c:=by
  simp only [List.mem_cons,List.not_mem_nil,or_false] at hc
  rcases hc with rfl | rfl | rfl | rfl | rfl <;> assumption
 exact I1.fpOk lc (I1.hok.fresh lc)
end
noncomputable def O0 (k:Nat):Str:=Str.ofString (toString (k:Int))
noncomputable def Ab0:Str:=⟨#[59,32]⟩
noncomputable def Yr (nms:List Str) (ss:List Nat):Str:=Str.join spaceS (ss.map (E2 nms))
noncomputable def Acz9 (nms:List Str) (ks:List RD):Str:=if ks=[] then Str.ofString "none" else Str.join Ab0 (ks.map (E7 nms))
noncomputable def Zb (l:List (Nat × Nat)):Str:=Str.join spaceS (Str.ofString "yes" :: l.map fun p=>O0 p.1)
noncomputable def Vn (nms:List Str) (ds:List RD) (st:Bool) (x y:Nat):Str:=
 match (unfF nms.length ds x).bs.find? (usB (st,x,y)) with
 | none=>Zb (unfF nms.length ds x).st
 | some b=>Str.ofString "no "++E2 nms b
noncomputable def Afg (nms:List Str) (good bad:Str):Option Nat->Str
 | none=>good
 | some b=>bad++Str.ofString " "++E2 nms b
inductive Ask
 | show
 | fol (st:Bool) (x y:Nat)
 | keys
 | cover
 | cut (x y:Nat)
 | tree
 | parts
 | part (x y:Nat)
noncomputable def U4 (nms:List Str):Ask->List Str
 | .show=>[Str.ofString "show"]
 | .fol st x y=>[Str.ofString "follows",E2 nms x,D6 st,E2 nms y]
 | .keys=>[Str.ofString "keys"]
 | .cover=>[Str.ofString "cover"]
 | .cut x y=>[Str.ofString "cut",E2 nms x,E2 nms y]
 | .tree=>[Str.ofString "tree"]
 | .parts=>[Str.ofString "parts"]
 | .part x y=>[Str.ofString "part",E2 nms x,N5,E2 nms y]
noncomputable def Aec:Ask->List Nat
 | .fol _ x y=>[x,y]
 | .cut x y=>[x,y]
 | .part x y=>[x,y]
 | _=>[]
noncomputable def Ef (n:Nat):Ask->Prop
 | .fol _ x y=>x < 2 ^ n/\y < 2 ^ n
 | .cut x y=>x < 2 ^ n/\y < 2 ^ n/\x|||y=2 ^ n - 1
 | .part x y=>x < 2 ^ n/\y < 2 ^ n
 | _=>True
theorem Lp {sep:Str} {ys:List Str} {d e:Nat} (h:∀y∈ys,y.length<=d) (hs:sep.length=e) (hb:ys.length * d + e * ys.length<=100000):JoinOk sep ys=true:=by
 have h2:=Ai h
 unfold JoinOk
 rw [Bool.not_eq_true']
 show decide (_ > sizeLine)=false
 rw [StrLaws.joinTotal,decide_eq_false]
 have:=sizeLine_eq
 rw [hs]
 rw [Nat.mul_comm e] at hb
 omega
theorem Aaj {k:Nat} (h:k < 1000):(O0 k).length<=4:=by
 have:∀k,k < 1000->(O0 k).length<=4:=by decide +kernel
 exact this k h
noncomputable def Mv (K:Θf):Sp:=fun vs H Q _=>∃(np sl:Addr) (nms:List Str) (ss:List Nat),vs=[.ref np,.ref sl]/\NAt K H np nms/\NM nms/\SqL K H sl (ss.map vN)/\ss.length<=200/\(∀s∈ss,s < 2 ^ nms.length)/\∀H',Same H H'->Q (.str (Yr nms ss)) H'
noncomputable def Ij (K:Θf):Sp:=fun vs H Q _=>∃(np rl:Addr) (nms:List Str) (rs:List Rl),vs=[.ref np,.ref rl]/\NAt K H np nms/\NM nms/\SqL K H rl (rs.map fun r=>V.ref r.r)/\RulesAt H nms.length rs/\rs.length<=12/\∀H',Same H H'->Q (.str (Acz9 nms (Nj nms.length (rs.map Rl.d)))) H'
noncomputable def Afl (H:Hp) (t:Addr) (o:Option Nat) (l:List (Nat × Nat)):Prop:=
 (∃b,o=some b/\H t=some (.tup [.str "no",vN b]))\/
 (o=none/\∃(q:Addr) (sw:List SW),H t=some (.tup [.str "yes",.ref q])/\H q=some (.lst (sw.map fun w=>V.ref w.1))/\StepsAt H sw/\sw.map (·.2)=l/\sw.length<=300)
noncomputable def Ada (nms:List Str) (o:Option Nat) (l:List (Nat × Nat)):Str:=
 match o with
 | none=>Zb l
 | some b=>Str.ofString "no "++E2 nms b
noncomputable def Rp (K:Θf):Sp:=fun vs H Q _=>∃(np t:Addr) (nms:List Str) (o:Option Nat) (l:List (Nat × Nat)),vs=[.ref np,.ref t]/\NAt K H np nms/\NM nms/\Afl H t o l/\(∀b,o=some b->b < 2 ^ nms.length)/\(∀p∈l,p.1 < 1000)/\∀H',Same H H'->Q (.str (Ada nms o l)) H'
noncomputable def Afm (H:Hp) (t:Addr) (good bad:Str) (o:Option Nat):Prop:=
 (o=none/\∃v,H t=some (.tup [.str good,v]))\/∃b,o=some b/\H t=some (.tup [.str bad,vN b])
noncomputable def Rr (K:Θf):Sp:=fun vs H Q _=>∃(np t:Addr) (nms:List Str) (good bad:Str) (o:Option Nat),vs=[.ref np,.ref t,.str good]/\NAt K H np nms/\NM nms/\Afm H t good bad o/\good≠bad/\bad.length<=10/\(∀b,o=some b->b < 2 ^ nms.length)/\∀H',Same H H'->Q (.str (Afg nms good bad o)) H'
section
variable {X:Cx} {K:Θf}
end
section
variable {m:Nat} {rs:List RD}
end
theorem Qz {rs:List RD} {s t:US} (R:Run rs s t):(∀p∈s.st,p.1 < rs.length)->∀p∈t.st,p.1 < rs.length:=by
 induction R with
 | done _=>exact fun h=>h
 | @step s t u us e _ ih=>
  intro h
  have hu:u∈L4 rs s.bs rs.length:=by rw [e]; exact Θc ..
  refine ih fun p hp=>?_
  rcases Θa hp with hp | hp
  ·exact h p hp
  ·rw [Θs hp]
   exact (T8 hu).1
theorem Adp {rs:List RD} {m x b:Nat} {s:US} (hx:x < 2 ^ m) (R:Run rs ⟨x,E9 m x,[]⟩ s) {f:Nat->Bool} (h:s.bs.find? f=some b):b < 2 ^ m:=
 (R.good (Good.begin hx)).1.lt (List.mem_of_find?_eq_some h)
theorem Vw {m:Nat} {rs:List RD} (m7:m<=7):(R3 m rs (K2 m)).length<=200:=by
 have h1:=Hl m rs (K2 m)
 have h2:=(Fs m (by omega)).1
 have h3:=Gj m7
 omega
theorem Aae {m:Nat} {rs:List RD} (m7:m<=7):∀s∈R3 m rs (K2 m),s < 2 ^ m:=fun s hs=>((Wg m7).mp hs).1
theorem Qo {K:Θf} {p q:Addr} {xs ys:List V} {n:Nat} {g:TG} {tc:TT} {te:TE} {σ:St} {H:Hp} {F:List V->Hp->Prop} (Pv:Nat->List V->Hp->Prop) (hn:xs.length<=1000000) (he:xs.length=ys.length) (h0:Pv 0 [] H)
  (hl:∀i acc H,i<=xs.length->Pv i acc H->(SqT K H p xs/\SqL K H q ys)/\acc.length<=i)
  (hs:∀i x y acc H t,xs[i]? = some x->ys[i]? = some y->Pv i acc H->H t=none->g (.ref t) (List.replicate n none++σ) (upd H t (.tup [x,y])) fun σ2 H2=>σ2.drop n=σ/\tc σ2 H2 fun c H3=>if c=true then te σ2 H3 fun v H4=>Pv (i + 1) (acc++[v]) H4 else Pv (i + 1) acc H3)
  (hd:∀acc H,Pv xs.length acc H->F acc H):LCW n (Zk K p q) g tc te σ H F:=by
 have sz:(1000000:Nat) < sizeLine:=by rw [sizeLine_eq]; decide
 refine ⟨fun i m acc H=>m=xs.length - i/\i<=xs.length/\Pv i acc H,⟨xs.length,by simp,Nat.zero_le _,h0⟩,?_⟩
 rintro i m acc H ⟨rfl,hi,pv⟩
 obtain ⟨⟨h1,h2⟩,h3⟩:=hl i acc H hi pv
 by_cases lt:i < xs.length
 ·have lt2:i < ys.length:=by omega
  refine .inr ⟨⟨xs,ys,xs[i],ys[i],h1,h2,Θh lt,Θh lt2⟩,by omega,Pv (i + 1),fun acc' H' p'=>⟨xs.length - (i + 1),by omega,rfl,lt,p'⟩,fun v H' yv=>?_⟩
  obtain ⟨t,x,y,rfl,nt,a3,a4,rfl⟩:=yv
  exact hs i x y acc H t (a3 xs h1) (a4 ys h2) pv nt
 ·obtain rfl:i=xs.length:=by omega
  exact .inl ⟨⟨xs,ys,h1,h2,Zd_ _⟩,by omega,hd acc H pv⟩
noncomputable def F0:Str:=Str.ofString "SET"
noncomputable def Aa:Str:=Str.ofString "NUMBER"
noncomputable def Ds (f w:Str):Bool:=(decide (f=F0) || decide (f=Aa)) || decide (f=w)
noncomputable def P9 (ws fs:List Str):Bool:=decide (ws.length=fs.length) && (fs.zip ws).all fun p=>Ds p.1 p.2
theorem Aaa (z:Str):inV (.str z) [V.str F0,V.str Aa]=(decide (z=F0) || decide (z=Aa)):=by
 have h:=Av (x:=z) (l:=[F0,Aa])
 rw [show ([V.str F0,V.str Aa]:List V)=[F0,Aa].map V.str from rfl,h,Bool.eq_iff_iff]
 simp
noncomputable def Ie (K:Θf):Sp:=fun vs H Q _=>∃(wp fp:Addr) (ws fs:List Str),vs=[.ref wp,.ref fp]/\SqL K H wp (ws.map V.str)/\SqT K H fp (fs.map V.str)/\ws.length<=300/\fs.length<=300/\∀H',Same H H'->Q (.bl (P9 ws fs)) H'
noncomputable def Jk:Str:=Str.ofString "let"
noncomputable def Eo:Str:=Str.ofString "drop"
noncomputable def formsL:List (List Str):=[[Str.ofString "show"],[Str.ofString "follows",F0,N5,F0],[Str.ofString "follows",F0,Cz,F0],[Str.ofString "keys"],[Str.ofString "cover"],[Str.ofString "cut",F0,F0],[Str.ofString "tree"],[Str.ofString "parts"],[Str.ofString "part",F0,N5,F0],[Jk,F0,N5,F0],[Jk,F0,Cz,F0],[Eo,Aa]]
structure FMT (K:Θf) (FA:Addr) (fas:List Addr):Prop where
 all:∀H:Hp,SqT K H FA (fas.map V.ref)
 len:fas.length=12
 one:∀(k:Nat) (f:Addr) (fs:List Str),fas[k]? = some f->formsL[k]? = some fs->∀H:Hp,SqT K H f (fs.map V.str)
theorem Hh:formsL.length=12:=rfl
theorem Ll {k:Nat} {fs:List Str} (h:formsL[k]? = some fs):fs.length<=300:=by
 have:∀fs∈formsL,fs.length<=300:=by decide
 exact this fs (Θe h)
noncomputable def Ab9 (nms:List Str):Ask->List (Str × Str × Nat)
 | .show=>[(Str.ofString "show",Str.ofString "show",0)]
 | .fol st x y=>[(Str.ofString "follows",Str.ofString "follows",0),(F0,E2 nms x,x),(D6 st,D6 st,0),(F0,E2 nms y,y)]
 | .keys=>[(Str.ofString "keys",Str.ofString "keys",0)]
 | .cover=>[(Str.ofString "cover",Str.ofString "cover",0)]
 | .cut x y=>[(Str.ofString "cut",Str.ofString "cut",0),(F0,E2 nms x,x),(F0,E2 nms y,y)]
 | .tree=>[(Str.ofString "tree",Str.ofString "tree",0)]
 | .parts=>[(Str.ofString "parts",Str.ofString "parts",0)]
 | .part x y=>[(Str.ofString "part",Str.ofString "part",0),(F0,E2 nms x,x),(N5,N5,0),(F0,E2 nms y,y)]
noncomputable def Afo:Ask->Nat
 | .show=>0
 | .fol true _ _=>1
 | .fol false _ _=>2
 | .keys=>3
 | .cover=>4
 | .cut _ _=>5
 | .tree=>6
 | .parts=>7
 | .part _ _=>8
theorem Uu (nms:List Str) (a:Ask):formsL[Afo a]? = some ((Ab9 nms a).map (·.1)):=by
 cases a with
 | fol st x y=>cases st <;> rfl
 | _=>rfl
theorem Kw (nms:List Str) (a:Ask):P9 (U4 nms a) ((Ab9 nms a).map (·.1))=true:=by
 cases a with
 | fol st x y=>cases st <;> rfl
 | _=>rfl
section
variable {X:Cx} {K:Θf} {e:Expr} {ta:TE} {f:Str} {pos:Pos}
theorem Be (h:X.K=K) (he:PE X e ta) (hb:attributeBase e f X.env (eval e X.env)=eval e X.env):PE X (.Attribute e f pos) (Ae8 K ta f):=h ▸ Adf he hb
end
structure DK (K:Θf) (CD:Addr):Prop where
 cl:Cls K CD
 nN:NoAttr K CD "names"
 nR:NoAttr K CD "rules"
noncomputable def Aeg (np rl:Addr):List (Str × V):=[(Str.ofString "names",.ref np),(Str.ofString "rules",.ref rl)]
noncomputable def DeskAt (H:Hp) (CD d np rl:Addr):Prop:=∃dx,H d=some (.ins CD dx (Aeg np rl))
theorem DeskAt.same {H H':Hp} {CD d np rl:Addr} (h:DeskAt H CD d np rl) (e:Same H H'):DeskAt H' CD d np rl:=by
 obtain ⟨dx,h⟩:=h
 exact ⟨dx,e _ _ h⟩
noncomputable def Rh (CD:Addr):Sp:=fun vs H Q _=>∃(d dx:Addr) (nms:List Str) (rs:List RD),vs=[.ref d,.str (O4 nms rs)]/\H d=some (.ins CD dx [])/\NM nms/\NW nms/\(∀r∈rs,InR nms r/\r.2.2≠0)/\rs.length<=12/\
 ∀(nl rl:Addr) (ks:List Rl) (H':Hp),But d H H'->nl≠d->rl≠d->nl≠rl->H nl=none->H rl=none->DeskAt H' CD d nl rl->ks.map Rl.d=rs->RulesAt H' nms.length ks->H' nl=some (.lst (nms.map V.str))->H' rl=some (.lst (ks.map fun r=>V.ref r.r))->Q .non H'
theorem N7 {nms:List Str} {s:Nat} (N:NM nms) (hs:s < 2 ^ nms.length):∀c∈(E2 nms s).cps.toList,44<=c/\c < 128:=by
 unfold E2
 split
 ·decide
 ·exact O7 (p:=fun c=>44<=c/\c < 128) (by decide) fun y hy c hc=>by
   have:=Cg N hs y hy c hc
   omega
section
variable {nms:List Str} {s:Nat}
theorem Uf (N:NM nms) (hs:s < 2 ^ nms.length) (h:E2 nms s=dashS):s=0:=by
 by_cases h0:s=0
 ·exact h0
 ·unfold E2 at h
  rw [if_neg h0] at h
  have:=Dm N hs (Af N hs h0) 45 (by rw [h]; decide)
  unfold okC at this
  omega
theorem Ue {z:Nat} (N:NM nms) (hs:s < 2 ^ nms.length) (hz:z < 2 ^ nms.length) (n0:E2 nms s≠dashS) (e:Txt.split (E2 nms s) commaS=E6 nms z):z=s:=by
 unfold E2 at n0 e
 by_cases h0:s=0
 ·rw [if_pos h0] at n0; exact absurd rfl n0
 ·rw [if_neg h0,Af N hs h0] at e
  exact Jj N hz hs e.symm
theorem Ec (N:NM nms) (hs:s < 2 ^ nms.length):¬O6 nms (E2 nms s):=fun h=>by
 unfold E2 at h
 by_cases h0:s=0
 ·rw [if_pos h0] at h; exact h.1 rfl
 ·rw [if_neg h0] at h; exact h.2 s hs (Af N hs h0)
end
theorem Pw (st:Bool):∀c∈(D6 st).cps.toList,44<=c/\c < 128:=by cases st <;> decide
theorem Px (st:Bool):(D6 st).length<=70:=by cases st <;> decide
theorem Bw {nms:List Str} {a:Ask} (N:NM nms) (h:Ef nms.length a):∀w∈U4 nms a,(∀c∈w.cps.toList,44<=c/\c < 128)/\w.length<=70:=by
 intro w hw
 cases a with
 | fol st x y=>
  simp only [U4,List.mem_cons,List.not_mem_nil,or_false] at hw
  rcases hw with rfl | rfl | rfl | rfl
  ·exact ⟨by decide,by decide⟩
  ·exact ⟨N7 N h.1,L8 N h.1⟩
  ·exact ⟨Pw st,Px st⟩
  ·exact ⟨N7 N h.2,L8 N h.2⟩
 | cut x y=>
  simp only [U4,List.mem_cons,List.not_mem_nil,or_false] at hw
  rcases hw with rfl | rfl | rfl
  ·exact ⟨by decide,by decide⟩
  ·exact ⟨N7 N h.1,L8 N h.1⟩
  ·exact ⟨N7 N h.2.1,L8 N h.2.1⟩
 | part x y=>
  simp only [U4,List.mem_cons,List.not_mem_nil,or_false] at hw
  rcases hw with rfl | rfl | rfl | rfl
  ·exact ⟨by decide,by decide⟩
  ·exact ⟨N7 N h.1,L8 N h.1⟩
  ·exact ⟨by decide,by decide⟩
  ·exact ⟨N7 N h.2,L8 N h.2⟩
 | _=>
  rw [Θs hw]
  exact ⟨by decide,by decide⟩
theorem Qa (nms:List Str) (a:Ask):1<=(U4 nms a).length/\(U4 nms a).length<=4:=by cases a <;> exact ⟨by show 1<=_; simp [U4],by simp [U4]⟩
theorem Ry {nms:List Str} {a:Ask} (N:NM nms) (h:Ef nms.length a):Txt.split (Str.join spaceS (U4 nms a)) spaceS=U4 nms a:=
 I8 (c:=32) (by decide) (fun e=>by have:=(Qa nms a).1; rw [e] at this; exact absurd this (by decide)) fun p hp hc=>by
  have:=((Bw N h p hp).1 32 hc).1
  omega
theorem Zp {nms:List Str} {a:Ask} (N:NM nms) (h:Ef nms.length a):(Str.join spaceS (U4 nms a)).length<=290:=by
 have h1:=X9 (sep:=spaceS) (d:=70) (fun y hy=>(Bw N h y hy).2) rfl
 have h2:=(Qa nms a).2
 have h3:(U4 nms a).length * 70<=4 * 70:=Nat.mul_le_mul_right _ h2
 omega
theorem Uw (nms:List Str) (a:Ask):∃w:Str,((U4 nms a).map V.str)[0]? = some (V.str w)/\¬V.str w=V.str (Str.ofString "let")/\¬V.str w=V.str (Str.ofString "drop"):=by
 cases a <;> exact ⟨_,rfl,by decide,by decide⟩
noncomputable abbrev Cx.tried (X:Cx) (p0:List (Addr × Obj)) (ET:XK):Cx:=
 { X with pn:=X.pn++p0,xe:=fun e s'=>∃σ' H1 s1,Inv X p0 σ' H1 s1/\CX1 X.prog X.w X.stack H1 s1 ET e s' }
section
variable {X:Cx} {p0 pins:List (Addr × Obj)} {σ:St} {H:Hp} {s:Shared} {ET:XK}
theorem Inv.intoT (I:Inv X p0 σ H s):Inv (X.tried p0 ET) [] σ H s:=
 ⟨⟨I.ok.mod,I.ok.kind,I.ok.glob,I.ok.blt,I.ok.above,I.ok.inj,I.ok.has,I.ok.cab,I.ok.hd,I.ok.frames,I.ok.stk,I.ok.exf,I.ok.bs,I.ok.bsz,I.ok.noex,I.ok.exfs,I.ok.funs,I.ok.frf⟩,I.os,I.bare,I.base,I.loc,I.cell,I.free,I.freeC,(fun p hp=>I.pin p (by rw [List.append_nil] at hp; exact hp)),I.hok,I.len⟩
theorem Inv.outT (I:Inv (X.tried p0 ET) pins σ H s):Inv X p0 σ H s:=
 ⟨⟨I.ok.mod,I.ok.kind,I.ok.glob,I.ok.blt,I.ok.above,I.ok.inj,I.ok.has,I.ok.cab,I.ok.hd,I.ok.frames,I.ok.stk,I.ok.exf,I.ok.bs,I.ok.bsz,I.ok.noex,I.ok.exfs,I.ok.funs,I.ok.frf⟩,I.os,I.bare,I.base,I.loc,I.cell,I.free,I.freeC,(fun p hp=>I.pin p (Zt_ _ hp)),I.hok,I.len⟩
theorem Aev {E:XK} (hEE:∀c H,E c none H->ET c none H):U2 (CX1 X.prog X.w) (X.tried p0 ET) E:=by
 rintro pins σ H s e s' I ⟨ea,C,B,H',rfl,F,hE⟩
 exact ⟨σ,H,s,I.outT,ea,C,B,H',rfl,F,hEE _ _ hE⟩
end
section
variable {X:Cx} {body hb:List Stmt} {b₀:Stmt} {tb:XK->TS} {th:TS} {cx:Str} {c:Value} {cp hp pos:Pos}
end
theorem Sz {env env':Env} {e:Value} (h:env.frame=env'.frame):noteFrame e env=noteFrame e env':=by
 unfold noteFrame PySem.frameOf
 rw [h]
noncomputable def FlyAt (B:Heap) (l:List Env) (e:Addr) (cls a0 fl:Value) (h:Heap):Prop:=B.StaysIn h/\B.get? e=none/\h.FunFrames B l/\h.TracedAtW B e cls a0 fl
noncomputable def Abt (c:Addr) (h h':Heap):Prop:=∀b o,b≠c->h.get? b=some o->(∀vs,o.data≠.fields vs)->∃sl,h'.get? b=some { o with slots:=sl }
theorem FlyAt.wrote {B:Heap} {l:List Env} {e T:Addr} {cls a0 fl v:Value} {h:Heap} {oe oT:Obj} {vs ts:Array Value} (s1:B.StaysIn h) (s2:B.get? e=none) (s3:h.FunFrames B l)
  (he:h.get? e=some oe) (hc:oe.cls=cls/\vs[0]? = some a0) (hd:oe.data = .fields vs) (h1:vs[1]? = some (.ref T)) (hn:B.get? T=none) (hTe:T≠e) (hT:h.get? T=some oT) (hdT:oT.data = .fields ts) (h3:ts[3]? = some fl) :
  FlyAt B l e cls a0 v (h.update T (Obj.mapFields (·.setIfInBounds 3 v)))/\h.UpToSlots (h.update T (Obj.mapFields (·.setIfInBounds 3 v))):=by
 have n3:3 < ts.size:=(Array.getElem?_eq_some_iff.mp h3).1
 have away:∀b u,b≠T->h.get? b=some u->(h.update T (Obj.mapFields (·.setIfInBounds 3 v))).get? b=some u:=fun b u ne q=>(Heap.get?_update_other _ _ (Ne.symm ne)).trans q
 have plain:∀b u,h.get? b=some u->(∀vs,u.data≠.fields vs)->b≠T:=by
  rintro b u q nf rfl
  rw [hT] at q
  cases q
  exact nf ts hdT
 refine ⟨⟨fun b u q=>away b u ?_ (s1 b u q),s2,s3.of_keeps fun b u q nf=>⟨u,away b u (plain b u q nf) q,rfl⟩,oe,vs,T,_,_,away e oe (Ne.symm hTe) he,hc,hd,h1,hn,hTe,Heap.get?_update_self _ hT (Obj.isFreed_of_fields (Obj.data_mapFields hdT _)),Obj.data_mapFields hdT _,by simp [n3]⟩,fun b u q nf=>⟨u.slots,away b u (plain b u q nf) q⟩⟩
 rintro rfl
 rw [hn] at q
 cases q
section
variable {M:Model} {A:Around} {E:Value->Shared->Prop} {s:Shared} {B:Heap} {env:Env} {outer l:List Env} {L e:Addr} {cls a0 fl:Value} {Q:Unit->Shared->Prop}
theorem Nv (hfr:A.frames=some (env :: outer)) (hf:env.frame=some L) (x:FlyAt B (env :: outer) e cls a0 fl s.heap)
  (hQ:∀h',Heap.FlyingW B outer e cls a0 h'->s.heap.UpToSlots h'->Q () { s with heap:=h' }):wpAny M A (leaving env (.ref e)) Q E s:=by
 obtain ⟨x1,x2,x3,x4⟩:=x
 by_cases hc:(fl == rawInt L)=true
 ·have hc':fl=rawInt L:=by simpa using hc
  subst hc'
  unfold leaving
  refine Za_ (wpAny_noteFrame_againW hf x4 (wpAny_landsW ⟨x1,x2,x3,x4⟩ fun h' y sm=>?_))
  obtain ⟨k1,k2,⟨_,_,k3⟩,k4⟩:=y
  exact hQ h' ⟨k1,k2,k3,k4⟩ sm
 ·obtain ⟨oe,vs,T,oT,ts,he,hcl,hd,h1,hn,hTe,hT,hdT,h3⟩:=x4
  have n3:3 < ts.size:=(Array.getElem?_eq_some_iff.mp h3).1
  obtain ⟨⟨y1,y2,y3,y4⟩,sm⟩:=FlyAt.wrote (v:=.none) x1 x2 x3 he hcl hd h1 hn hTe hT hdT h3
  unfold leaving noteFrame
  simp only [hf]
  refine Za_ (Za_ (wpAny_field he hd h1 ?_))
  rw [if_pos (by rfl)]
  refine Za_ (wpAny_field hT hdT h3 ?_)
  rw [if_neg hc]
  refine Za_ (wpAny_setField hT hdT n3 ?_)
  have ne:e≠T:=Ne.symm hTe
  obtain ⟨hcl1,hcl2⟩:=hcl
  subst hcl1
  refine wpAny_newEntryW hfr y3 hf ((Heap.get?_update_other _ _ hTe).trans he) y1 y2 hd (Array.getElem?_eq_some_iff.mp h1).1 hcl2 fun h' z=>?_
  obtain ⟨z1,⟨_,_,z2⟩,z3,z4⟩:=z
  exact hQ h' ⟨z1,y2,z2,z3⟩ (sm.trans z4)
theorem Tt {cenv:Env} {what:String} (x:FlyAt B l e cls a0 fl s.heap) (hQ:∀fl' h',FlyAt B l e cls a0 fl' h'->s.heap.UpToSlots h'->E (.ref e) { s with heap:=h' }) :
  wpAny M A (PySem.passOn what (.ref e) cenv:Sem Value) (fun _ _=>False) E s:=by
 obtain ⟨x1,x2,x3,oe,vs,T,oT,ts,he,hcl,hd,h1,hn,hTe,hT,hdT,h3⟩:=x
 have n3:3 < ts.size:=(Array.getElem?_eq_some_iff.mp h3).1
 unfold PySem.passOn setFlight
 refine Za_ (wpAny_field he hd h1 ?_)
 rw [if_neg (by intro z; cases z)]
 refine Za_ (Za_ (wpAny_field he hd h1 ?_))
 rw [if_pos (by rfl)]
 refine wpAny_setField hT hdT n3 ?_
 obtain ⟨y,sm⟩:=FlyAt.wrote (v:=cenv.frame.elim .none fun f=>rawInt f) x1 x2 x3 he hcl hd h1 hn hTe hT hdT h3
 exact wpAny_throw (hQ _ _ y sm)
theorem Er {c:Addr} {h h' B':Heap} (k:∀b,b≠c->h'.get? b=h.get? b) (kb:∀b,B.get? b=none->B'.get? b=none):∀{l:List Env},h.FunFrames B l->c∉l.filterMap (·.frame)->h'.FunFrames B' l
 | [],_,_=>trivial
 | env :: r,⟨x1,⟨L,o,y1,y2,y3,y4⟩,x3⟩,hc=>by
  have ne:L≠c:=fun z=>hc (List.mem_filterMap.mpr ⟨env,Θc,by rw [y1,z]⟩)
  refine ⟨x1,⟨L,o,y1,kb L y2,by rw [k L ne]; exact y3,y4⟩,Er k kb x3 fun z=>hc ?_⟩
  obtain ⟨e1,e2,e3⟩:=List.mem_filterMap.mp z
  exact List.mem_filterMap.mpr ⟨e1,Θd _ e2,e3⟩
theorem FlyAt.but {c:Addr} {h h':Heap} {m:Str->Option Value} (x:FlyAt B l e cls a0 fl h) (hm:h.Ns c m) (hc:c∉frs l) (k:∀b,b≠c->h'.get? b=h.get? b):FlyAt (PySem.W.hideAll B [c]) l e cls a0 fl h':=by
 obtain ⟨x1,x2,x3,oe,vs,T,oT,ts,he,hcl,hd,h1,hn,hTe,hT,hdT,h3⟩:=x
 obtain ⟨o,es,ep,ho,hod,_⟩:=hm
 have gone:∀b,B.get? b=none->(PySem.W.hideAll B [c]).get? b=none:=fun b q=>by
  cases q':(PySem.W.hideAll B [c]).get? b with
  | none=>rfl
  | some u=>rw [PySem.W.of_hideAll _ q'] at q; cases q
 have ne1:e≠c:=by
  rintro rfl
  rw [ho] at he; cases he; rw [hod] at hd; cases hd
 have ne2:T≠c:=by
  rintro rfl
  rw [ho] at hT; cases hT; rw [hod] at hdT; cases hdT
 refine ⟨fun b u q=>?_,gone e x2,Er k gone x3 hc,oe,vs,T,oT,ts,by rw [k e ne1]; exact he,hcl,hd,h1,gone T hn,hTe,by rw [k T ne2]; exact hT,hdT,h3⟩
 have ne:b≠c:=by
  rintro rfl
  rw [PySem.W.hideAll_none _ Θc] at q; cases q
 rw [k b ne]
 exact x1 b u (PySem.W.of_hideAll _ q)
end
theorem Fly.overBut {X:Cx} {pins:List (Addr × Obj)} {σ:St} {H H':Hp} {s s':Shared} {ea C c:Addr} {B h2:Heap} (I:Inv X pins σ H s) (F:Fly X.prog X.w X.stack H H' s s' ea C B) (k1:∀b o,b≠c->B.get? b=some o->h2.get? b=some o) (k2:Abt c s'.heap h2) :
  Un (frs X.stack) [c] H H' s.heap h2:=by
 have ne:∀{b:Addr},b∉[c]->b≠c:=fun hb z=>hb (z ▸ Θc)
 have slot:∀b o,s.heap.get? b=some o->H b=none->b∈frs X.stack->b∉[c]->∃sl,h2.get? b=some { o with slots:=sl }:=fun b o q n hb hc=>by
  obtain ⟨sl,e1⟩:=F.un.slot b o q n hb (by simp)
  obtain ⟨_,o',e2,hd⟩:=I.stack.mem hb
  rw [q] at e2
  cases e2
  obtain ⟨sl',e3⟩:=k2 b _ (ne hc) e1 hd
  exact ⟨sl',e3⟩
 refine ⟨fun b o q n hb hc=>k1 _ _ (ne hc) (F.inB b o q n hb),slot,fun b o q n _=>F.un.free b o q n (by simp),fun b o q hc=>?_,F.un.tups,F.un.frzs,F.un.tbls⟩
 by_cases hb:b∈frs X.stack
 ·obtain ⟨sl,e1⟩:=slot b o q (I.stkFree b hb) hb hc
  exact ⟨_,e1⟩
 ·obtain ⟨o',e1⟩:=F.ex b o q hb
  exact ⟨o',k1 _ _ (ne hc) e1⟩
noncomputable def Iu (X:Cx) (ET:XK):Prop:=∀(pins:List (Addr × Obj)) (σ:St) (H:Hp) (s:Shared) (H':Hp) (s':Shared) (ea C c:Addr) (B h5:Heap) (a0 fl:Value),Inv X pins σ H s->Fly X.prog X.w X.stack H H' s s' ea C B->FpOk X pins H' c->
 FlyAt (PySem.W.hideAll B [c]) X.stack ea (.ref C) a0 fl h5->Abt c s'.heap h5->ET (.ref C) none H'->X.xe (.ref ea) { s' with heap:=h5 }
section
variable {P:Program} {w:World} {K:Θf} {mg:Str->Option Value} {base:Heap} {N:List Str} {qual:Str} {scope:Scope} {f:Addr} {cd:Value} {A:Around} {outer:List Env} {s₀:Shared} {H₀:Hp} {E E':XK}
theorem Wb (hEE:∀c H,E c none H->E' c none H):Iu (T0 (CX1 P w) P w K mg base N qual scope f cd A outer s₀ H₀ E') E:=by
 intro pins σ H s H' s' ea C c B h5 a0 fl I F fc x sm hE
 have hf:(envOfC qual scope s₀.heap.objs.size f cd).frame=some s₀.heap.objs.size:=rfl
 have hfr:(A.deeper (envOfC qual scope s₀.heap.objs.size f cd)).frames=some (envOfC qual scope s₀.heap.objs.size f cd :: outer):=I.ok.frames
 have hc0:s₀.heap.objs.size<=c:=by
  rcases fc.2.2.2.1 with z | z
  ·exact absurd z Zi_
  ·exact z
 refine Nv (s:={ s' with heap:=h5 }) hfr hf x fun h2 x1 x4=>?_
 have ns:∀b o,s₀.heap.get? b=some o->b∉[c]:=fun b o q z=>by
  rw [List.mem_singleton] at z
  subst z
  exact absurd (Zq_ (Zn_ q) hc0) (Nat.lt_irrefl _)
 have u:=F.overBut (c:=c) (h2:=h2) I (fun b o ne q=>x1.1 b o (PySem.W.hideAll_get _ q (by simpa using ne))) (fun b o ne q nf=>by
  obtain ⟨sl,e1⟩:=sm b o ne q nf
  obtain ⟨sl',e2⟩:=x4 b _ e1 nf
  exact ⟨sl',e2⟩)
 have hokB:HOk P w H' (PySem.W.hideAll B [c]):=fun a o q=>by
  have nc:∀b u,H' b=some u->b∉[c]:=fun b u z hm=>by
   rw [List.mem_singleton] at hm
   subst hm
   rw [fc.1] at z
   cases z
  refine (F.hok a o q).stay (fun b u hb z=>PySem.W.hideAll_get _ z ?_) (fun _ z=>z) fun _ _ z=>z
  rcases hb with rfl | hb
  ·exact nc _ _ q
  ·exact nc _ _ hb
 have J:Inv (T0 (CX1 P w) P w K mg base N qual scope f cd A outer s₀ H₀ E') pins σ H' { s' with heap:=h2 }:=I.call' (ch:=[c]) F.os u (hokB.kept x1.1) F.bare fun b hb=>by
  rw [List.mem_singleton] at hb
  subst hb
  exact ⟨fc.2.2.2.1,fc.2.1,fc.2.2.2.2.1,fc.2.2.2.2.2⟩
 have base0:Un (frs outer) [] H₀ H s₀.heap s.heap:=I.base
 have nin:∀b o,s₀.heap.get? b=some o->b∉frs outer->b∉frs (envOfC qual scope s₀.heap.objs.size f cd :: outer):=fun b o q hb hm=>by
  rw [W0 hf] at hm
  rcases Zg_.mp hm with z | z
  ·exact absurd (Zn_ q) (by rw [z]; exact Nat.lt_irrefl _)
  ·exact hb z
 refine ⟨ea,C,_,H',rfl,⟨F.os.trans I.os,F.bare,J.base,hokB,fun b o q n hb=>?_,fun b o q hb=>?_,⟨a0,x1⟩⟩,hEE _ _ hE⟩
 ·exact PySem.W.hideAll_get _ (F.inB b o (base0.keep b o q n hb (by simp)) (base0.free b o q n (by simp)) (nin b o q hb)) (ns b o q)
 ·obtain ⟨o',e1⟩:=base0.there b o q (by simp)
  obtain ⟨o2,e2⟩:=F.ex b o' e1 (nin b o q hb)
  exact ⟨o2,PySem.W.hideAll_get _ e2 (ns b o q)⟩
end
section
variable {X:Cx} {pins:List (Addr × Obj)} {σ:St} {H:Hp} {s2:Shared} {tg iter elt:Expr} {ifs:List Expr} {sc:Scope} {pos:Pos} {xs:List Str} {wi:TI} {g:TG} {tc:TT} {te:TE} {fp:List Addr} {ET:XK}
theorem Ve {use:Option (Value->Sem Unit)} {Q:Value->Shared->Prop} {acc e:Value} {σ':St} {H1:Hp} {s1 s':Shared} {H3:Heap} (I:Inv X pins σ H s2) (f2:∀b∈fp,FpOk X pins H b/\b < s2.heap.objs.size) (hst:X.stack=X.env :: X.outer) (hfr:X.env.frame=some X.env.locals) (hout:Iu X ET)
  (hH3:s2.heap.push { cls:=.type "list",dict:=none,data:=.seq ([]:List Value).toArray }=H3) (I1:Inv (cxC X xs sc (s2.heap.objs.size :: fp) { s2 with heap:=H3 } H) [] σ' H1 s1) (cx:CX1 X.prog X.w X.stack H1 s1 ET e s') :
  notedBy (model X.prog X.w) X.A (cxC X xs sc (s2.heap.objs.size :: fp) { s2 with heap:=H3 } H).env (fun x s''=>compPost (model X.prog X.w) X.A X.xe use Q acc H3.objs.size (.error x) s'') e s':=by
 obtain ⟨ea,C,B,H',rfl,F,hE⟩:=cx
 have hC:H3.objs.size=s2.heap.objs.size + 1:=by rw [<-hH3,Heap.size_push]
 have old3:∀b o,s2.heap.get? b=some o->H3.get? b=some o:=fun b o e=>hH3 ▸ Zc_ _ e
 have un:Un (frs X.stack) (s2.heap.objs.size :: fp) H H1 H3 s1.heap:=I1.base
 have nin:∀b o,s2.heap.get? b=some o->b∉fp->b∉s2.heap.objs.size :: fp:=fun b o e hb z=>(Zg_.mp z).elim (Zs_ (Zn_ e)) hb
 have J:Inv X pins σ H1 s1:=I.call' (ch:=fp) (I1.os.trans rfl) ⟨fun b o e n hf hb=>un.keep b o (old3 b o e) n hf (nin b o e hb),fun b o e n hf hb=>un.slot b o (old3 b o e) n hf (nin b o e hb),fun b o e n hb=>un.free b o (old3 b o e) n (nin b o e hb),
  fun b o e hb=>un.there b o (old3 b o e) (nin b o e hb),un.tups,un.frzs,un.tbls⟩ I1.hok I1.bare fun b hb=>⟨(f2 b hb).1.2.2.2.1,(f2 b hb).1.2.1,(f2 b hb).1.2.2.2.2.1,(f2 b hb).1.2.2.2.2.2⟩
 obtain ⟨m,⟨o,es,ep,ho,hod,hor⟩,_⟩:=I1.loc
 have free1:H1 H3.objs.size=none:=I1.free
 have ho:s1.heap.get? H3.objs.size=some o:=ho
 have nofr:H3.objs.size∉frs X.stack:=fun z=>by
  have hb:s2.heap.objs.size<=H3.objs.size:=by rw [hC]; exact Nat.le_succ _
  rcases Zg_.mp (I.stkSub _ z) with q | q
  ·exact absurd (Zq_ I.lt hb) (by rw [q]; exact Nat.lt_irrefl _)
  ·exact I.nofs hb q
 have free2:H' H3.objs.size=none:=F.un.free _ _ ho free1 (by simp)
 have ns2:s'.heap.Ns H3.objs.size m:=⟨o,es,ep,F.un.keep _ _ ho free1 nofr (by simp),hod,hor⟩
 have fc:FpOk X pins H' H3.objs.size:=I.fpOk (by rw [hC]; exact Nat.le_succ _) free2
 obtain ⟨a0,fl⟩:=F.fly
 have hframes:X.A.frames=some (X.env :: X.outer):=by rw [<-hst]; exact I.ok.frames
 have fl':=fl
 rw [hst] at fl'
 unfold notedBy
 rw [Sz (env:=(cxC X xs sc (s2.heap.objs.size :: fp) { s2 with heap:=H3 } H).env) (env':=X.env) rfl]
 refine wpAny_looks_onW hframes hfr fl' fun h4 held sm4=>⟨m,sm4.ns ns2,fun h' hs' cenv _=>?_⟩
 have fa:FlyAt B X.stack ea (.ref C) a0 (rawInt X.env.locals) h4:=by rw [hst]; exact held
 have fb:=fa.but (sm4.ns ns2) nofr hs'.2
 refine Tt (s:={ s' with heap:=h' }) fb fun fl2 h5 f5 sm5=>hout pins σ H1 s1 H' s' ea C H3.objs.size B h5 a0 fl2 J F fc f5 (fun b u ne q nf=>?_) hE
 obtain ⟨sl,e1⟩:=sm4 b u q nf
 rw [<-hs'.2 b ne] at e1
 obtain ⟨sl',e2⟩:=sm5 b _ e1 nf
 exact ⟨sl',e2⟩
theorem Xr {i:Nat} {y:Str} {pos' spos:Pos} (S:CScope X xs sc) (hc:X.calm=true) (hst:X.stack=X.env :: X.outer) (hfr:X.env.frame=some X.env.locals) (hout:Iu X ET) (hN:X.N.Nodup) (hy:X.N[i]? = some y) (hk:X.env.scope.names.lookup y=some .local)
  (hi:PI X tg iter wi) (hg:∀ex s3 H3,PG ((cxC X xs sc ex s3 H3).tried [] ET) tg g) (ht:∀ex s3 H3,PTs ((cxC X xs sc ex s3 H3).tried [] ET) ifs tc) (he:∀ex s3 H3,PE ((cxC X xs sc ex s3 H3).tried [] ET) elt te)
  (hsw:swapsWith (.ListComp elt [⟨tg,iter,ifs,0⟩] sc pos) (some (.Name y pos')) spos.line X.env=pure true:=by rfl)
  (hs:∀x,foldedSetIterable iter X.env x=pure x:=by intro _; rfl):PS X (.Assign [.Name y pos'] (.ListComp elt [⟨tg,iter,ifs,0⟩] sc pos) spos) (Abm (tLC xs.length wi g tc te) (Qi i)):=by
 intro pins s σ H D I h
 rw [exec_Assign_Name_used _ _ _ _ hsw]
 refine Za_ (wpAny_standAt (Za_ ?_))
 show wpAny _ X.A (do let _ <-comprehension (.ListComp elt [⟨tg,iter,ifs,0⟩] sc pos) sc X.env _ (newList []) false (eval iter X.env) (some (assign (.Name y pos') X.env))) _ _ s
 refine Za_ (wpAny_mono (wpAny_comprehension_free (use:=some (assign (.Name y pos') X.env)) (Q:=fun _ s'=>SP X pins D .next s') rfl hs (Z2 (S.cells I.ok)) S.kind S.names
  (thn (hi pins s σ H _ I h) fun v s1 h1=>thn h1 fun itv s2 h2=>?_)) (fun _ s' hq=>Zb_ (Zb_ hq)) fun _ _ e=>e)
 obtain ⟨it,fp,tn,J,H2,e,I2,T,st2,f2,W,w0,turn⟩:=h2
 subst e
 refine wpAny_newObj_type (wpAny_newFunctionEnv S.nocell (by intro y hy; simp at hy) (fun h₁ hns₁ hsb₁=>?_) S.kind)
 dsimp only at hns₁ hsb₁ ⊢
 generalize hH3:s2.heap.push { cls:=.type "list",dict:=none,data:=.seq ([]:List Value).toArray }=H3 at hns₁ hsb₁ ⊢
 have k1:∀b o,H3.get? b=some o->h₁.get? b=some o:=fun b o e=>hsb₁.extBut b o (Zs_ (Zn_ e)) (Zc_ _ e)
 have fpLt:∀b∈fp,FpOk X pins H2 b/\b < s2.heap.objs.size:=fun b hb=>by
  obtain ⟨o,e,_⟩:=T.obj _ _ st2 b hb
  exact ⟨f2 b hb,Zn_ e⟩
 refine Gu (X':=(cxC X xs sc (s2.heap.objs.size :: fp) { s2 with heap:=H3 } H2).tried [] ET) (RR:=fun acc C=>compPost (model X.prog X.w) X.A X.xe (some (assign (.Name y pos') X.env)) (fun _ s'=>SP X pins D .next s') acc C) (hg _ _ _) (ht _ _ _) (he _ _ _) I2 T st2 f2 W w0 _ turn (fun D' C s' acc H' hns fC hF hD IF=>?_) hH3 k1
  (fun I3 hex=>(Lm S I3 hex hns₁ k1).intoT) (fun x c e=>.inr (L5 e).1) ⟨rfl,rfl,rfl,rfl,rfl,rfl,rfl,hc,rfl,fun x s' z=>?_,rfl,rfl,rfl⟩
 ·obtain ⟨m,hm⟩:=hns
  refine wpAny_assign_Name (Cs (v:=.ref D') IF hN hy (.inl hk) rfl (fun s'' I'' hsb=>?_) (.inr hk))
  obtain ⟨a,hsb,ha⟩:=hsb
  have hne:C≠a:=by
   rcases ha with z | z
   ·rw [z]; exact fC.2.1
   ·exact fun q=>fC.2.2.2.2.1 y a z q.symm
  refine ⟨m,hm.sameBut hsb hne,fun h' hs'=>⟨_,_,fC.turn I'' hs',hF D' hD⟩⟩
 ·obtain ⟨σ',H1,s1,I1,q⟩:=z
  exact Ve I2 fpLt hst hfr hout hH3 I1 q
end
noncomputable def Ab6 (f:Obj->Obj):Prop:=∀o,(f o).dict=o.dict/\(o.data≠.freed->(f o).data≠.freed)
noncomputable def Tame {α:Type}:Sem α->Prop
 | .pure _=>True
 | .raise _=>True
 | .unsupported _=>True
 | .finish _=>True
 | .rule _ k=>Tame (k ())
 | .at _ k=>Tame (k ())
 | .load _ _ k=>∀o,Tame (k o)
 | .update _ _ f k=>Ab6 f/\Tame (k ())
 | .alloc _ k=>∀a,Tame (k a)
 | .loadIfAlive _ k=>∀o,Tame (k o)
 | .point _ k=>Tame (k ())
 | .register _ k=>Tame (k ())
 | .fresh k=>∀t,Tame (k t)
 | .ask k=>∀x,Tame (k x)
 | .choose _ _ _=>False
 | .os _ _ _=>False
 | .call _ _ _ _ _=>False
 | .handled _ k=>∀v,Tame (k v)
 | .newGen _ _=>False
 | .genState _ _=>False
 | .resume _ _ _ _=>False
 | .yield _ _ _ _=>False
 | .stack k=>∀l,Tame (k l)
 | .fork _ _=>False
 | .thread k=>∀n,Tame (k n)
 | .await _ _ _ _ _=>False
noncomputable def HasD (e D:Addr) (h:Heap):Prop:=∃o,h.get? e=some o/\o.dict=some D
theorem get_raw {h:Heap} {a:Addr} {o:Obj}:h.get? a=some o↔h.objs[a]? = some o/\o.data≠.freed:=by
 unfold Heap.get?
 split
 ·rename_i d x y z
  constructor
  ·intro h; cases h
  ·rintro ⟨h1,h2⟩
   rw [z] at h1
   cases h1
   exact absurd rfl h2
 ·rename_i z
  constructor
  ·intro h
   refine ⟨h,fun q=>?_⟩
   obtain ⟨a1,a2,a3,a4⟩:=o
   exact z a1 a2 a4 (by rw [h]; congr 1; cases q; rfl)
  ·exact fun h=>h.1
theorem HasD.push {e D:Addr} {h:Heap} {o:Obj} (x:HasD e D h):HasD e D (h.push o):=by
 obtain ⟨u,h1,h2⟩:=x
 exact ⟨u,Zc_ _ h1,h2⟩
theorem HasD.update {e D a:Addr} {h:Heap} {f:Obj->Obj} (x:HasD e D h) (k:Ab6 f):HasD e D (h.update a f):=by
 obtain ⟨u,h1,h2⟩:=x
 obtain ⟨g1,g2⟩:=get_raw.mp h1
 by_cases z:a=e
 ·subst z
  refine ⟨f u,get_raw.mpr ⟨?_,(k u).2 g2⟩,(k u).1.trans h2⟩
  show (h.objs.modify a f)[a]? = _
  rw [Array.getElem?_modify,if_pos rfl,g1]
  rfl
 ·exact ⟨u,(Heap.get?_update_other _ _ z).trans h1,h2⟩
theorem Uk {α:Type} {M:Model} {Γ:PySem.Ctx} {e D:Addr}:∀{t:Sem α} {Q:α->Pos->Shared->Prop} {E:Value->Pos->Shared->Prop} {p:Pos} {s:Shared},Tame t->HasD e D s.heap->Sem.wp M Γ t Q E p s->
  Sem.wp M Γ t (fun a p' s'=>Q a p' s'/\HasD e D s'.heap) (fun x p' s'=>E x p' s'/\HasD e D s'.heap) p s:=by
 intro t
 induction t with
 | pure a=>intro Q E p s _ k h; exact ⟨h,k⟩
 | raise x=>intro Q E p s _ k h; exact ⟨h,k⟩
 | unsupported w=>intro Q E p s _ k h; exact h
 | finish w=>intro Q E p s _ k h; exact h
 | rule g c ih=>intro Q E p s ta k h; exact ih () ta k h
 | «at» g c ih=>intro Q E p s ta k h; exact ih () ta k h
 | load a g c ih=>
  intro Q E p s ta k h
  obtain ⟨o,h1,h2⟩:=h
  exact ⟨o,h1,ih o (ta o) k h2⟩
 | update a g f c ih=>
  intro Q E p s ta k h
  exact ⟨h.1,ih () ta.2 (HasD.update k ta.1) h.2⟩
 | alloc o c ih=>intro Q E p s ta k h; exact ih _ (ta _) k.push h
 | loadIfAlive a c ih=>intro Q E p s ta k h; exact ih _ (ta _) k h
 | point l c ih=>intro Q E p s ta k h; exact ih () ta k h
 | register a c ih=>intro Q E p s ta k h; exact h
 | fresh c ih=>intro Q E p s ta k h; exact ih _ (ta _) k h
 | ask c ih=>intro Q E p s ta k h; exact ih _ (ta _) k h
 | choose x n c ih=>intro Q E p s ta; exact ta.elim
 | os x n c ih=>intro Q E p s ta; exact ta.elim
 | call c x g l k ih=>intro Q E p s ta; exact ta.elim
 | handled o c ih=>intro Q E p s ta k h; exact ih _ (ta _) k h
 | newGen c k ih=>intro Q E p s ta; exact ta.elim
 | genState g k ih=>intro Q E p s ta; exact ta.elim
 | resume g r l k ih=>intro Q E p s ta; exact ta.elim
 | yield v g l k ih=>intro Q E p s ta; exact ta.elim
 | stack c ih=>intro Q E p s ta k h; exact ih _ (ta _) k h
 | fork c k ih=>intro Q E p s ta; exact ta.elim
 | thread c ih=>intro Q E p s ta k h; exact ih _ (ta _) k h
 | await a t d l k ih=>intro Q E p s ta; exact ta.elim
theorem R7 {α:Type} {M:Model} {A:Around} {e D:Addr} {t:Sem α} {Q:α->Shared->Prop} {E:Value->Shared->Prop} {s:Shared} (ta:Tame t) (k:HasD e D s.heap) (h:wpAny M A t Q E s) :
  wpAny M A t (fun a s'=>Q a s'/\HasD e D s'.heap) (fun x s'=>E x s'/\HasD e D s'.heap) s:=fun Γ p hΓ=>Uk ta k (h Γ p hΓ)
theorem Tame.bind {α β:Type} {m:Sem α} {f:α->Sem β} (h1:Tame m) (h2:∀a,Tame (f a)):Tame (m >>= f):=by
 show Tame (m.bind f)
 induction m with
 | pure a=>exact h2 a
 | raise x=>trivial
 | unsupported w=>trivial
 | finish w=>trivial
 | rule g c ih=>exact ih () h1
 | «at» g c ih=>exact ih () h1
 | load a g c ih=>exact fun o=>ih o (h1 o)
 | update a g f c ih=>exact ⟨h1.1,ih () h1.2⟩
 | alloc o c ih=>exact fun a=>ih a (h1 a)
 | loadIfAlive a c ih=>exact fun o=>ih o (h1 o)
 | point l c ih=>exact ih () h1
 | register a c ih=>exact ih () h1
 | fresh c ih=>exact fun a=>ih a (h1 a)
 | ask c ih=>exact fun a=>ih a (h1 a)
 | choose x n c ih=>exact h1.elim
 | os x n c ih=>exact h1.elim
 | call c x g l k ih=>exact h1.elim
 | handled o c ih=>exact fun a=>ih a (h1 a)
 | newGen c k ih=>exact h1.elim
 | genState g k ih=>exact h1.elim
 | resume g r l k ih=>exact h1.elim
 | yield v g l k ih=>exact h1.elim
 | stack c ih=>exact fun a=>ih a (h1 a)
 | fork c k ih=>exact h1.elim
 | thread c ih=>exact fun a=>ih a (h1 a)
 | await a t d l k ih=>exact h1.elim
theorem Lq (f:Array Value->Array Value):Ab6 (Obj.mapFields f):=fun o=>by
 obtain ⟨a,b,c,d⟩:=o
 cases c <;> exact ⟨rfl,fun h=>by first | exact h | (intro z; cases z)⟩
theorem Aj:Tame PySem.stack:=fun _=>trivial
theorem My (v:Value):Tame (fieldsOf v):=by
 unfold fieldsOf
 split
 ·refine Tame.bind (fun _=>trivial) fun o=>?_
  split <;> trivial
 ·trivial
theorem V4 (v:Value) (i:Nat):Tame (field v i):=by
 unfold field
 refine Tame.bind (My v) fun vs=>?_
 split <;> trivial
theorem S7 (v:Value) (i:Nat) (x:Value):Tame (setField v i x):=by
 unfold setField
 split
 ·unfold updateField
  refine Tame.bind (fun _=>trivial) fun o=>?_
  split
  ·split
   ·exact ⟨Lq _,trivial⟩
   ·trivial
  ·trivial
 ·trivial
theorem Kr (ty:String) (vs:List Value):Tame (newFields ty vs):=by
 unfold newFields newObj newObjAsIs
 simp only
 split
 ·trivial
 ·exact Tame.bind (fun _=>trivial) fun _=>trivial
theorem Gf:∀l:List Env,Tame (readyFrames l)
 | []=>trivial
 | env :: outer=>by
  unfold readyFrames
  split
  ·refine Tame.bind (fun _=>trivial) fun o=>?_
   split
   ·trivial
   ·refine Tame.bind ?_ fun im=>Tame.bind ?_ fun back=>Tame.bind ⟨fun o=>⟨rfl,fun h=>h⟩,trivial⟩ fun _=>Gf outer
    ·unfold behindIsImport
     split
     ·trivial
     ·split
      ·trivial
      ·exact Tame.bind (V4 _ _) fun _=>trivial
    ·unfold keptBack
     split
     ·split
      ·trivial
      ·unfold underTheClaimsCaller
       exact Tame.bind (Tame.bind Aj fun _=>trivial) fun _=>trivial
     ·trivial
  ·trivial
theorem Kq (env:Env):Tame (PySem.frameOf env):=by
 unfold PySem.frameOf frameEnvs
 refine Tame.bind (Tame.bind Aj fun _=>trivial) fun l=>Tame.bind ?_ fun o=>?_
 ·unfold frameObject
  split
  ·trivial
  ·exact Tame.bind (Gf _) fun _=>trivial
 ·split <;> trivial
theorem Pn (f:Addr) (b:Bool):Tame (entryPlaceOf f b):=by
 unfold entryPlaceOf
 refine Tame.bind Aj fun l=>?_
 split <;> trivial
theorem Io (e:Value) (env:Env):Tame (noteFrame e env):=by
 have last:∀(head:Value) (f:Addr),Tame (do setField e 1 (<-EntryCells.newEntry head (<-PySem.frameOf env) .none (rawInt f) .none (<-entryPlaceOf f (head != .none)))):=fun head f=>
  Tame.bind (Kq env) fun _=>Tame.bind (Pn _ _) fun _=>Tame.bind (Kr _ _) fun _=>S7 _ _ _
 unfold noteFrame
 split
 ·refine Tame.bind (V4 _ _) fun head=>?_
  split
  ·refine Tame.bind (V4 _ _) fun x=>?_
   split
   ·trivial
   ·exact Tame.bind (S7 _ _ _) fun _=>last _ _
  ·exact last _ _
 ·trivial
theorem X5 (e:Value) (f:Option Addr):Tame (setFlight e f):=by
 unfold setFlight
 refine Tame.bind (V4 _ _) fun tb=>?_
 split
 ·exact S7 _ _ _
 ·trivial
theorem Bu (e:Value) (env:Env):Tame (leaving env e):=Tame.bind (Io e env) fun _=>X5 e none
end L2
namespace L2
open PySem PySem.Spec PyProof.Rows PySem.W
section
variable {prog:Program} {w:World} {K:Θf} {A:Around} {E:Value->Shared->Prop} {h:Heap} {g:Array GenState} {d:Drawn} {t:Nat} {os:OsState}
variable {nm q:Str} {C N fI:Addr} {bs bm bmB:List Value} {hdct:Bool} {sn:List Str} {sub:List Value} {ab:Bool} {col:Option Bool} {dd:Option Addr} {k0 k1 k2 k3 k5:Option Value} {B newId initId:String}
theorem Wf (X:K.In h) (F:ExcBaseFacts B newId initId bmB) (T:OwnTail h bmB bm) {rest:List Value} {Q:PySem.Fin->Shared->Prop}
  (hC:h.get? C=some (excClassObj nm q C N bs bm hdct sn sub ab col dd k0 k1 k2 k3 k5 newId)) (hs:subIn K (.ref C) (.ref C)=some true) (hf:findIn K (.ref C) "__init__" = some (some (.ref fI))) (hfn:isFn K (.ref fI)=true)
  (hrest:rest.length<=sizeLine)
  (hq:∀h',Heap.MadeExcOf h h' (h.objs.size + 1) (.ref C) rest->wpAny (model prog w) A (call (.ref fI) (.ref (h.objs.size + 1) :: rest)) (fun r s'=>r = .none/\Q (.done (.ret (.ref (h.objs.size + 1)))) s') E ⟨h',g,d,t,os⟩) :
  wpAny (model prog w) A (Builtin.«type.__call__» ⟨.ref C :: rest,[]⟩) Q E ⟨h,g,d,t,os⟩:=by
 repeat (first | with_reducible refine wpAny_loadPart_at hC ?_ | with_reducible refine wpAny_madeBy_exc hC ?_ | wp_step)
 refine codeAny_call_builtin_code (Code.quiet_builtin _ F.quiet) (wpAny_check_new_subT F T hC (codeAny_exc_new_subT F T hC ?_ hrest))
 have old:∀b o,h.get? b=some o->((h.push { cls:=.type "tuple",data:=.seq rest.toArray }).push { cls:=.ref C,data:=.fields #[.ref h.objs.size,.none,.none,.none,.bool false,.none] }).get? b=some o:=fun b o z=>Zc_ _ (Zc_ _ z)
 have own:((h.push { cls:=.type "tuple",data:=.seq rest.toArray }).push { cls:=.ref C,data:=.fields #[.ref h.objs.size,.none,.none,.none,.bool false,.none] }).get? (h.objs.size + 1)=some { cls:=.ref C,data:=.fields #[.ref h.objs.size,.none,.none,.none,.bool false,.none] }:=by
  have:=Zm_ (h.push { cls:=.type "tuple",data:=.seq rest.toArray }) (o:={ cls:=.ref C,data:=.fields #[.ref h.objs.size,.none,.none,.none,.bool false,.none] }) rfl
  rwa [Heap.size_push] at this
 have tup:=Zc_ { cls:=.ref C,data:=.fields #[.ref h.objs.size,.none,.none,.none,.bool false,.none] } (Zm_ h (o:={ cls:=.type "tuple",data:=.seq rest.toArray }) rfl)
 have made:Heap.MadeExcOf h ((h.push { cls:=.type "tuple",data:=.seq rest.toArray }).push { cls:=.ref C,data:=.fields #[.ref h.objs.size,.none,.none,.none,.bool false,.none] }) (h.objs.size + 1) (.ref C) rest:=
  ⟨old,Heap.get?_none_of_le (Nat.le_succ _),h.objs.size,own,Heap.get?_none_of_le (Zd_ _),tup⟩
 have X2:=X.keeps old
 show wpAny _ _ _ _ _ _
 generalize (h.push { cls:=.type "tuple",data:=.seq rest.toArray }).push { cls:=.ref C,data:=.fields #[.ref h.objs.size,.none,.none,.none,.bool false,.none] }=h2 at *
 have known:Looks (model prog w) h2 (typeOf (.ref (h.objs.size + 1))) (.ref C):=(Looks.ld own).andThen .now
 unfold isInstance
 refine Za_ (Za_ (known.at ((looks_subIn X2 hs).at ?_)))
 rw [if_neg (by decide)]
 unfold callSpecial? specialOf
 refine Za_ (wpAny_holding (Za_ (Za_ (known.at ((looks_findIn X2 hf).at (wpAny_holding ?_))))))
 unfold bindSpecial
 refine Za_ (Za_ ((looks_typeIn X2 (beq_iff_eq.mp hfn)).at ?_))
 rw [if_pos (by decide)]
 refine Zb_ (Za_ (wpAny_mono (hq h2 made) (fun r s' z=>?_) fun _ _ z=>z))
 obtain ⟨rfl,z⟩:=z
 refine Zb_ ?_
 dsimp only
 rw [if_neg (by decide)]
 exact Zb_ z
theorem Va (X:K.In h) (F:ExcBaseFacts B newId initId bmB) (T:OwnTail h bmB bm) {rest:List Value} {Q:Value->Shared->Prop}
  (hC:h.get? C=some (excClassObj nm q C N bs bm hdct sn sub ab col dd k0 k1 k2 k3 k5 newId)) (hs:subIn K (.ref C) (.ref C)=some true) (hf:findIn K (.ref C) "__init__" = some (some (.ref fI))) (hfn:isFn K (.ref fI)=true)
  (hrest:rest.length<=sizeLine)
  (hq:∀h',Heap.MadeExcOf h h' (h.objs.size + 1) (.ref C) rest->wpAny (model prog w) (A.under (.builtin "type.__call__" ⟨.ref C :: rest,[]⟩)) (call (.ref fI) (.ref (h.objs.size + 1) :: rest)) (fun r s'=>r = .none/\Q (.ref (h.objs.size + 1)) s') E ⟨h',g,d,t,os⟩) :
  wpAny (model prog w) A (call (.ref C) rest) Q E ⟨h,g,d,t,os⟩:=by
 have f1:=tc_lookup
 have f2:=tc_bind (.ref C)
 have ty:(⟨h,g,d,t,os⟩:Shared).TypeIs (.ref C) "type":=⟨_,hC,rfl⟩
 refine wpAny_call (codeAny_of_tree ?_)
 show wpAny _ _ (callAny (.ref C) _) _ _ _
 repeat (any_goals (first | assumption | with_reducible refine wpAny_loadPart_at hC ?_ | wp_step))
 exact ⟨rfl,codeAny_call_builtin_at (Code.quiet_builtin _ (by decide +kernel)) entry_typeCall (wpAny_check_type_call_sub hC (Wf X F T hC hs hf hfn hrest fun h' hm=>hq h' hm))⟩
end
section
variable {prog:Program} {w:World} {K:Θf} {A:Around} {E:Value->Shared->Prop} {s:Shared} {env:Env} {C:Addr}
theorem Os {x:Sem Value} {Q:Flow->Shared->Prop} (hsb:subIn K (.ref C) (.type "BaseException")=some true) (hk:∃dC dt sl,K.lookup C=some ⟨.type "type",dC,dt,sl⟩) (hh:A.handled=none)
  (h:wpAny (model prog w) A x (fun v s₁=>∃e o vs,v = .ref e/\K.In s₁.heap/\s₁.heap.get? e=some o/\o.cls = .ref C/\o.data = .fields vs/\vs[1]? = some .none/\E (.ref e) s₁) E s) :
  wpAny (model prog w) A (raiseStmt env (some x) none) Q E s:=by
 unfold raiseStmt
 refine Za_ (wpAny_mono h (fun v s₁ h₁=>?_) fun _ _ z=>z)
 obtain ⟨e,o,vs,rfl,X,he,hc,hd,h1,hE⟩:=h₁
 obtain ⟨cl,dc,da,sl⟩:=o
 subst hc hd
 obtain ⟨hp,g,d,tk,os⟩:=s₁
 have known:Looks (model prog w) hp (typeOf (.ref e)) (.ref C):=(Looks.ld he).andThen .now
 have isb:=(looks_subIn (M:=model prog w) X hsb)
 unfold excFromValue isExcClass isInstance
 obtain ⟨dC,dt,slC,hk⟩:=hk
 have hC:=X _ _ hk
 repeat (first | with_reducible refine wpAny_loadPart_at he ?_ | with_reducible refine wpAny_loadPart_at hC ?_ | with_reducible refine known.at ?_ | with_reducible refine isb.at ?_ | wp_step)
 rw [h1]
 refine Zb_ ?_
 rw [if_neg (by decide)]
 exact Zb_ (wpAny_raiseNew_none hh hE)
end
section
variable {prog:Program} {w:World} {K:Θf} {A:Around} {E:Value->Shared->Prop} {h:Heap} {g:Array GenState} {d:Drawn} {t:Nat} {os:OsState}
variable {nm q:Str} {C N e:Addr} {bs bm:List Value} {hdct:Bool} {sn:List Str} {sub:List Value} {ab:Bool} {col:Option Bool} {dd:Option Addr} {k0 k1 k2 k3 k5:Option Value}
theorem Rz {Q:Value->Shared->Prop} {u:Value} {v0:Addr} {dc:Option Addr} {vs:Array Value} {sl:Array (Option Value)} (T:OwnTail h VEB bm)
  (hC:h.get? C=some (excClassObj nm q C N bs bm hdct sn sub ab col dd k0 k1 k2 k3 k5 "ValueError.__new__")) (he:h.get? e=some ⟨.ref C,dc,.fields vs,sl⟩) (h0:vs[0]? = some (.ref v0))
  (hq:∀h',(∀b o,b≠e->h.get? b=some o->h'.get? b=some o)->(∃v1:Addr,h'.get? e=some ⟨.ref C,dc,.fields (vs.setIfInBounds 0 (.ref v1)),sl⟩)->h.objs.size<=h'.objs.size->Q .none ⟨h',g,d,t,os⟩) :
  wpAny (model prog w) A (call (.builtin "ValueError.__init__") [.ref e,u]) Q E ⟨h,g,d,t,os⟩:=by
 have F:=PySem.F.excBase_ValueError
 refine wpAny_call (codeAny_call_builtin F.init.plain F.initEntry (wpAny_check_init_subT F T hC he rfl ?_))
 have he1:=Zc_ { cls:=Value.type "tuple",data:=Data.seq #[u] } he
 have lt:=Zn_ he
 repeat (first | with_reducible refine wpAny_loadPart_at he1 ?_ | wp_step)
 rw [h0]
 refine Zb_ (Za_ (wpAny_setField he1 rfl (Array.getElem?_eq_some_iff.mp h0).1 ?_))
 repeat (first | wp_step)
 refine hq _ (fun b o nb z=>?_) ⟨h.objs.size,?_⟩ ?_
 ·rw [Heap.get?_update_other _ _ (Ne.symm nb)]
  exact Zc_ _ z
 ·exact Heap.get?_update_self _ he1 rfl
 ·rw [Heap.size_update,Heap.size_push]
  exact Nat.le_succ _
end
section
open PySem.Builtin.ObjectAttr
variable {prog:Program} {w:World} {K:Θf} {A:Around} {E:Value->Shared->Prop} {s:Shared} {C CS e:Addr} {cd:ClassData} {name:Str}
theorem Abg {v:Value} {Q:Unit->Shared->Prop} {vs:Array Value} {sl:Array (Option Value)} (X:K.In s.heap) (he:s.heap.get? e=some ⟨.ref C,none,.fields vs,sl⟩)
  (hs:findIn K (.ref C) "__setattr__" = some (some (.builtin "object.__setattr__"))) (hc:clsIn K C=some cd) (hm:cd.mro = .ref C :: .ref CS :: VEB) (hd:cd.hasDict=true) (ht:findIn K (.ref C) name=some none)
  (hq:∀h' D tk',(∀b o,b≠e->s.heap.get? b=some o->h'.get? b=some o)->h'.get? e=some ⟨.ref C,some D,.fields vs,sl⟩->s.heap.objs.size<=D->h'.Ns1 D (fun y=>if y=name then some v else none)->Q () { s with heap:=h',toks:=tk' }) :
  wpAny (model prog w) A (setAttr (.ref e) name v) Q E s:=by
 have SF:=PySem.F.store_object
 have I:InstAt s.heap e ⟨.ref C,none,.fields vs,sl⟩ C none:=⟨he,rfl,rfl,trivial⟩
 have mro:Looks (model prog w) s.heap (mroOf (.ref C)) cd.mro:=(looks_clsIn X hc).andThen .now
 have sub:Looks (model prog w) s.heap (isInstance (.ref e) (.type "object")) true:=I.type.andThen (looks_mroIn X (by unfold mroIn; rw [hc,Option.bind_some,hm]; rfl))
 refine set_plain X I hs (codeAny_call_builtin SF.slot.plain SF.entry (@check_slot (model prog w) _ _ { s with toks:=s.toks + 1 } "object.__setattr__" "object" "__setattr__" (.ref e) [.str name s.toks,v] [] _ SF.kind SF.split sub (SF.args _ _ _) ?_))
 rw [osa_eq,refuse_eq]
 refine Za_ (Za_ (Looks.here (s:={ s with toks:=s.toks + 1 }) I.type (Za_ (Looks.here (s:={ s with toks:=s.toks + 1 }) mro ?_))))
 rw [hm,refuseLoop_ref,refuseLoop_ref]
 unfold VEB
 rw [PySem.F.store_ValueError.passes]
 refine Zb_ (Za_ (Looks.here (s:={ s with toks:=s.toks + 1 }) I.type (Za_ (Looks.here (s:={ s with toks:=s.toks + 1 }) (looks_findIn X ht) (Za_ (Zb_ ?_))))))
 unfold storeInOwnDict ownStreamTells ownDictForStores instanceDict
 refine Za_ (Zb_ (Za_ (Za_ (wpAny_loadPart he (Za_ (Looks.here (s:={ s with toks:=s.toks + 1 }) (looks_clsIn X hc) ?_))))))
 rw [hd,if_neg (by decide)]
 dsimp only
 rw [if_neg (show ¬(!true || !typeHasDict (.ref C))=true from Zf_)]
 have he1:=Zc_ { cls:=Value.type "dict",data:=Data.dict #[] } he
 have lt:=Zn_ he
 refine Za_ (wpAny_alloc (Za_ (wpAny_update he1 (Zb_ ?_))))
 have up:((s.heap.push { cls:=Value.type "dict",data:=Data.dict #[] }).update e fun o=>{ o with dict:=some s.heap.objs.size }).get? e=some ⟨.ref C,some s.heap.objs.size,.fields vs,sl⟩:=Heap.get?_update_self _ he1 rfl
 have ot:∀b o,b≠e->(s.heap.push { cls:=Value.type "dict",data:=Data.dict #[] }).get? b=some o->((s.heap.push { cls:=Value.type "dict",data:=Data.dict #[] }).update e fun o=>{ o with dict:=some s.heap.objs.size }).get? b=some o:=fun b o nb z=>(Heap.get?_update_other _ _ (Ne.symm nb)).trans z
 have nD:((s.heap.push { cls:=Value.type "dict",data:=Data.dict #[] }).update e fun o=>{ o with dict:=some s.heap.objs.size }).Ns1 s.heap.objs.size (fun _=>none):=
  ⟨_,#[],_,ot _ _ (Nat.ne_of_gt lt) (Zm_ _ rfl),rfl,(fun e he=>by cases Array.not_mem_empty _ he),List.Pairwise.nil,fun _=>rfl⟩
 have old:∀b o,b≠e->s.heap.get? b=some o->((s.heap.push { cls:=Value.type "dict",data:=Data.dict #[] }).update e fun o=>{ o with dict:=some s.heap.objs.size }).get? b=some o:=fun b o nb z=>ot b o nb (Zc_ _ z)
 generalize (s.heap.push { cls:=Value.type "dict",data:=Data.dict #[] }).update e (fun o=>{ o with dict:=some s.heap.objs.size })=h1 at up nD old
 unfold storeInDict
 refine Za_ (Zb_ (Za_ (wpAny_nsSet1 (s:={ s with heap:=h1,toks:=s.toks + 1 }) nD fun h2 n2 sb=>?_)))
 obtain ⟨oD,esD,epD,hoD,hdD,hcD⟩:=n2.count (PySem.Within.cons (ns:=[]) name v fun y hy=>absurd rfl hy)
 refine Za_ (wpAny_lookBehind hoD (by rw [hdD]; exact pastItsLine_dict (Zo_ hcD (by show 1<=_; decide))) (Zb_ ?_))
 exact hq h2 s.heap.objs.size _ (fun b o nb z=>(sb.2 b (Zs_ (Zn_ z))).trans (old b o nb z)) ((sb.2 e (Zs_ lt)).trans up) (Zd_ _) n2
end
section
open PySem.Calls PySem.Builtin PySem.Builtin.ObjectAttr
variable {prog:Program} {w:World} {K:Θf} {A:Around} {E:Value->Shared->Prop} {s:Shared} {C D e:Addr} {cd:ClassData} {name:Str}
theorem Zy {v:Value} {Q:Value->Shared->Prop} {expr:Bool} {mA:Str->Option Value} {vs:Array Value} {sl:Array (Option Value)} (i:ExcI K C) (X:K.In s.heap) (he:s.heap.get? e=some ⟨.ref C,some D,.fields vs,sl⟩)
  (hc:clsIn K C=some cd) (hd:cd.hasDict=true) (ht:findIn K (.ref C) name=some none) (hn:s.heap.Ns1 D mA) (hv:mA name=some v) (hh:handedIn v=true)
  (hq:Q v { s with toks:=s.toks + 1 }):wpAny (model prog w) A (getAttr (.ref e) name expr) Q E s:=by
 obtain ⟨H0,g0,d0,t0,o0⟩:=s
 have known:Looks (model prog w) H0 (typeOf (.ref e)) (.ref C):=(Looks.ld he).andThen .now
 obtain ⟨oD,hD,hl⟩:=Ho hn
 have I:InstAt H0 e ⟨.ref C,some D,.fields vs,sl⟩ C (some oD):=⟨he,rfl,rfl,hD⟩
 have other:(onTheHeap (Value.ref C) && Value.builtin "BaseException.__getattribute__" == Value.builtin "object.__getattribute__")=false:=by
  rw [show (Value.builtin "BaseException.__getattribute__" == Value.builtin "object.__getattribute__")=false from by decide +kernel,Bool.and_false]
 unfold getAttr getAttrBy
 apply Za_
 apply wpAny_mkText
 apply wpAny_holding
 apply Za_
 refine known.at (Za_ ((looks_findIn X i.ga).at ?_))
 simp only [other,Bool.false_eq_true,if_false]
 unfold getAttrByItsOwn hookBefore
 rw [if_pos (show onTheHeap (Value.ref C)=true from rfl)]
 apply Za_
 refine (looks_findIn X i.gh).at ?_
 apply Za_
 apply wpAny_attempt
 apply wpAny_holding
 unfold callGetattribute boundAndCalled
 rw [show (expr && onTheHeap (Value.builtin "BaseException.__getattribute__"))=false from Bool.and_false _]
 simp only [Bool.false_eq_true,if_false]
 rw [F.excAttr_ValueError.ga.bind (.ref e)]
 apply Za_
 apply Zb_
 refine wpAny_call (codeAny_call_builtin F.excAttr_ValueError.ga.plain F.entry_bexc_ga (Hd (s:=⟨H0,g0,d0,t0 + 1,o0⟩) i X known ?_))
 have found:Looks (model prog w) H0 (find (.ref e) (.ref C) name) (.value v):=by
  unfold find
  refine (looks_findIn X ht).andThen (Looks.andThen .now (Looks.andThen .now ?_))
  unfold ownThenClass
  have lo:Looks (model prog w) H0 (inOwnDict name (.ref e)) (some v):=looks_own X I hc (by unfold PySem.W.ownOf; rw [if_pos hd]; exact (hl name).trans (by rw [hv]))
  exact lo.andThen (b:=Found.value v) (show Looks (model prog w) H0 (do rule "getattr.instance-dict"; pure (Found.value v)) (Found.value v) from Looks.tag .now)
 unfold Builtin.«object.__getattribute__»
 repeat (first | assumption | lk | wp_step)
 show wpAny _ _ (handedOut v) _ _ _
 rw [handedOut_of hh]
 exact Zb_ hq
end
noncomputable def Jf (ea C:Addr):HO:=.ext fun h=>∃vs sl v0,h.get? ea=some ⟨.ref C,none,.fields vs,sl⟩/\vs[0]? = some (.ref v0)/\vs[1]? = some .none
noncomputable def Gh (ea C D:Addr):HO:=.ext fun h=>∃vs sl v0,h.get? ea=some ⟨.ref C,some D,.fields vs,sl⟩/\vs[0]? = some (.ref v0)/\vs[1]? = some .none
noncomputable def Nn (ea C D:Addr):HO:=.ext fun h=>∃vs sl,h.get? ea=some ⟨.ref C,some D,.fields vs,sl⟩
noncomputable def O5 (n:Int):HO:=.xd [(Str.ofString "line",.int n)]
noncomputable def CX2 (P:Program) (w:World):CXT:=fun outer H s E e s'=>∃ea C B H' D n,e = .ref ea/\Fly P w outer H H' s s' ea C B/\H' D=some (O5 n)/\HasD ea D s'.heap/\E (.ref C) (some D) H'
noncomputable def Gy (H:Hp) (e:Addr):Hp:=fun b=>if b=e then none else H b
theorem Q2 {H:Hp} {e b:Addr} (h:b≠e):Gy H e b=H b:=if_neg h
theorem Sk {H:Hp} {e:Addr}:Gy H e e=none:=if_pos rfl
section
variable {P:Program} {w:World} {K:Θf} {mg:Str->Option Value} {base:Heap} {N:List Str} {qual:Str} {scope:Scope} {f:Addr} {cd:Value} {A:Around} {outer:List Env} {s₀:Shared} {H₀:Hp} {E E':XK}
theorem Ac {pins:List (Addr × Obj)} {σ:St} {H:Hp} {s:Shared} {e C D:Addr} {n:Int} (I:Inv (T0 (CX2 P w) P w K mg base N qual scope f cd A outer s₀ H₀ E) pins σ H s)
  (new:s₀.heap.get? e=none) (hx:H e=some (Gh e C D)) (hD:H D=some (O5 n)) (hE:E (.ref C) (some D) (Gy H e)):(T0 (CX2 P w) P w K mg base N qual scope f cd A outer s₀ H₀ E).xe (.ref e) s:=by
 have hf:(envOfC qual scope s₀.heap.objs.size f cd).frame=some s₀.heap.objs.size:=rfl
 have hfr:(A.deeper (envOfC qual scope s₀.heap.objs.size f cd)).frames=some (envOfC qual scope s₀.heap.objs.size f cd :: outer):=I.ok.frames
 have hst:s.heap.FunFrames base (envOfC qual scope s₀.heap.objs.size f cd :: outer):=I.stack
 have hl:=PySem.W.funFrames_hide (as:=e :: frs (envOfC qual scope s₀.heap.objs.size f cd :: outer)) hst fun env he b hb=>Θd _ (List.mem_filterMap.mpr ⟨env,he,hb⟩)
 obtain ⟨⟨vs,sl,v0,he,h0,h1⟩,_⟩:=(show ObjOk P w H s.heap e (Gh e C D) from I.hok e _ hx)
 have De:D≠e:=fun z=>by rw [z,hx] at hD; cases hD
 have nin:∀b o,s₀.heap.get? b=some o->b∉frs outer->b∉e :: frs (envOfC qual scope s₀.heap.objs.size f cd :: outer):=fun b o q hb hm=>by
  rcases Zg_.mp hm with z | hm
  ·rw [z,new] at q; cases q
  ·rw [W0 hf] at hm
   rcases Zg_.mp hm with z | z
   ·exact absurd (Zn_ q) (by rw [z]; exact Nat.lt_irrefl _)
   ·exact hb z
 have base0:Un (frs outer) [] H₀ H s₀.heap s.heap:=I.base
 have stay:∀b o,(PySem.W.hideAll s.heap (e :: frs (envOfC qual scope s₀.heap.objs.size f cd :: outer))).get? b=some o->s.heap.get? b=some o:=fun b o q=>PySem.W.of_hideAll _ q
 have hid:(PySem.W.hideAll s.heap (e :: frs (envOfC qual scope s₀.heap.objs.size f cd :: outer))).get? e=none:=PySem.W.hideAll_none _ (Θc ..)
 refine wpAny_mono (R7 (D:=D) (Bu (.ref e) _) ⟨_,he,rfl⟩ (wpAny_leaving_firstW (Q:=fun _ s'=>∃h2,s' = { s with heap:=h2 }/\Heap.LeftW (PySem.W.hideAll s.heap (e :: frs (envOfC qual scope s₀.heap.objs.size f cd :: outer))) (envOfC qual scope s₀.heap.objs.size f cd :: outer) e (.ref C) (.ref v0) s.heap h2)
  hfr hl hf he stay hid rfl h1 h0 fun h' hL=>⟨h',rfl,hL⟩)) (fun _ s' ⟨⟨h2,e2,L⟩,hd⟩=>?_) fun _ _ z=>z.1
 subst e2
 obtain ⟨l1,⟨_,_,l2⟩,l3,l4⟩:=L
 have slot:∀b o,s₀.heap.get? b=some o->H₀ b=none->b∈frs outer->∃sl,h2.get? b=some { o with slots:=sl }:=fun b o q n hb=>by
  obtain ⟨sl1,e1⟩:=base0.slot b o q n hb (by simp)
  obtain ⟨_,o',e2,hdd⟩:=I.ok.funs.mem hb
  have q':s₀.heap.get? b=some o':=e2
  rw [q] at q'
  cases q'
  obtain ⟨sl',e3⟩:=l4 b _ e1 hdd
  exact ⟨sl',e3⟩
 have notup:∀b (u:HO),H b=some u->(∀ea C D,u≠Gh ea C D)->b≠e:=fun b u q nu z=>by
  rw [z,hx] at q
  cases q
  exact nu _ _ _ rfl
 refine ⟨e,C,_,Gy H e,D,n,rfl,⟨I.os,I.bare,⟨fun b o q n hb hx'=>?_,fun b o q n hb _=>slot b o q n hb,fun b o q n hx'=>?_,fun b o q hx'=>?_,fun b xs q=>?_,fun b o u q=>?_,fun b ps q=>?_⟩,fun a o q=>?_,fun b o q n hb=>?_,fun b o q hb=>?_,⟨_,l1,hid,l2,l3⟩⟩,by rw [Q2 De]; exact hD,hd,hE⟩
 ·exact l1 b o (PySem.W.hideAll_get _ (base0.keep b o q n hb hx') (nin b o q hb))
 ·unfold Gy
  split
  ·rfl
  ·exact base0.free b o q n hx'
 ·by_cases hb:b∈frs outer
  ·obtain ⟨sl1,e1⟩:=slot b o q (I.ok.frf b hb) hb
   exact ⟨_,e1⟩
  ·obtain ⟨o',e1⟩:=base0.there b o q hx'
   exact ⟨o',l1 _ _ (PySem.W.hideAll_get _ e1 (nin b o q hb))⟩
 ·have:=base0.tups b xs q
  rw [Q2 (notup b _ this fun _ _ _ z=>by cases z)]
  exact this
 ·have:=base0.frzs b o u q
  rw [Q2 (notup b _ this fun _ _ _ z=>by cases z)]
  exact this
 ·obtain ⟨more,this⟩:=base0.tbls b ps q
  exact ⟨more,by rw [Q2 (notup b _ this fun _ _ _ z=>by cases z)]; exact this⟩
 ·have ne:a≠e:=fun z=>by rw [z,Sk] at q; cases q
  rw [Q2 ne] at q
  have nfr:∀b u,H b=some u->b≠e->b∉e :: frs (envOfC qual scope s₀.heap.objs.size f cd :: outer):=fun b u z nb hm=>by
   rcases Zg_.mp hm with z2 | hm
   ·exact nb z2
   ·have:=I.stkFree b hm
    rw [z] at this
    cases this
  refine (I.hok a o q).stay (fun b u hb z=>PySem.W.hideAll_get _ z ?_) (fun b z=>?_) fun b xs z=>?_
  ·rcases hb with rfl | hb
   ·exact nfr _ _ q ne
   ·exact nfr _ _ hb (notup b _ hb fun _ _ _ z=>by cases z)
  ·rw [Q2 (notup b _ z fun _ _ _ z=>by cases z)]; exact z
  ·rw [Q2 (notup b _ z fun _ _ _ z=>by cases z)]; exact z
 ·exact PySem.W.hideAll_get _ (base0.keep b o q n hb (by simp)) (nin b o q hb)
 ·obtain ⟨o',e1⟩:=base0.there b o q (by simp)
  exact ⟨o',PySem.W.hideAll_get _ e1 (nin b o q hb)⟩
theorem Aeu (hEE:∀c D H,E c D H->E' c D H):U2 (CX2 P w) (T0 (CX2 P w) P w K mg base N qual scope f cd A outer s₀ H₀ E') E:=by
 rintro pins σ H s e s' I ⟨ea,C,B,H',D,n,rfl,F,hD,hd,hE⟩
 have hf:(envOfC qual scope s₀.heap.objs.size f cd).frame=some s₀.heap.objs.size:=rfl
 have hfr:(A.deeper (envOfC qual scope s₀.heap.objs.size f cd)).frames=some (envOfC qual scope s₀.heap.objs.size f cd :: outer):=I.ok.frames
 obtain ⟨a0,fl⟩:=F.fly
 refine wpAny_mono (R7 (D:=D) (Bu (.ref ea) _) hd (wpAny_leaves_onW (Q:=fun _ s2=>∃h2,s2={ s' with heap:=h2 }/\Heap.FlyingW B outer ea (.ref C) a0 h2/\s'.heap.UpToSlots h2) hfr hf fl fun h2 x1 x4=>⟨h2,rfl,x1,x4⟩)) (fun _ s2 ⟨⟨h2,e2,x1,x4⟩,hd2⟩=>?_) fun _ _ z=>z.1
 subst e2
 have u:=F.over (h2:=h2) I x1.1 x4
 have J:Inv (T0 (CX2 P w) P w K mg base N qual scope f cd A outer s₀ H₀ E') pins σ H' { s' with heap:=h2 }:=I.call' (ch:=[]) F.os u (F.hok.kept x1.1) F.bare fun b hb=>absurd hb (by simp)
 have base0:Un (frs outer) [] H₀ H s₀.heap s.heap:=I.base
 have nin:∀b o,s₀.heap.get? b=some o->b∉frs outer->b∉frs (envOfC qual scope s₀.heap.objs.size f cd :: outer):=fun b o q hb hm=>by
  rw [W0 hf] at hm
  rcases Zg_.mp hm with z | z
  ·exact absurd (Zn_ q) (by rw [z]; exact Nat.lt_irrefl _)
  ·exact hb z
 refine ⟨ea,C,B,H',D,n,rfl,⟨F.os.trans I.os,F.bare,J.base,F.hok,fun b o q n hb=>?_,fun b o q hb=>?_,⟨a0,x1⟩⟩,hD,hd2,hEE _ _ _ hE⟩
 ·exact F.inB b o (base0.keep b o q n hb (by simp)) (base0.free b o q n (by simp)) (nin b o q hb)
 ·obtain ⟨o',e1⟩:=base0.there b o q (by simp)
  exact F.ex b o' e1 (nin b o q hb)
end
theorem Fun.ok2 {P:Program} {w:World} {K:Θf} {mg:Str->Option Value} {base:Heap} {x qual:Str} {st:Stmt} {f:Addr} {fd:FuncData} {N ps:List Str} {k:Nat} {sp:Sp} (F:Fun K x qual st f fd) (S:FnScope N ps (B6 st)) (len:∀vs H Q E,sp vs H Q E->vs.length=ps.length)
  (hbody:∀(cdv:Value) (A:Around) (outer:List Env) (s:Shared) (H:Hp) (vs:List V) (Q:VK) (E:XK),Room k (A.deeper (envOfC qual (B6 st) s.heap.objs.size f cdv))->sp vs H Q E->
   ∃t,PSs (T0 (CX2 P w) P w K mg base N qual (B6 st) f cdv A outer s H E) (G0 st) t/\t { nx:=fun _ H'=>Q .non H',rt:=Q } (S5 N vs) H):FnOk P w K mg base (CX2 P w) (k + 1) f fd ps sp:=by
 obtain ⟨oc,od,kV,doc,pm,an,cdv,ct,osl,rfl,lk,hcd⟩:=F.ex
 exact Qh lk hcd S len fun A outer s H vs Q E hr hsp=>hbody cdv A outer s H vs Q E hr hsp
section
variable {X:Cx} {pins:List (Addr × Obj)} {σ:St} {H:Hp} {s:Shared} {ea:Addr}
theorem Fly.landed2 {H':Hp} {s':Shared} {C D:Addr} {B h2:Heap} (I:Inv X pins σ H s) (F:Fly X.prog X.w X.stack H H' s s' ea C B) {a0:Value} (f:Heap.FlyingW B X.stack ea (.ref C) a0 h2) (k2:s'.heap.UpToSlots h2) (hd:HasD ea D h2) :
  Inv X pins σ (upd H' ea (Nn ea C D)) { s' with heap:=h2 }:=by
 have J:=F.landed I f k2
 have e:upd (upd H' ea (Je ea C)) ea (Nn ea C D)=upd H' ea (Nn ea C D):=Abq
 rw [<-e]
 obtain ⟨oe,vs,hoe,hoc,hod,_⟩:=f.first
 obtain ⟨o2,g1,g2⟩:=hd
 rw [hoe] at g1
 cases g1
 obtain ⟨c1,c2,c3,c4⟩:=oe
 cases hoc; cases hod; cases g2
 exact J.write (t':=s'.toks) (x:=ea) (e:=ea) (by rw [A6]; exact True.intro) (.inl rfl) (fun _ _ _ z=>z) ⟨_,hoe⟩ ⟨⟨_,_,hoe⟩,⟨_,hoe⟩,fun h1 h2' ⟨a,b,z⟩ k=>⟨a,b,k _ z⟩⟩
end
structure ExcN (K:Θf) (x:Str) (C CS fI:Addr):Prop where
 ns:nsIn K mainGlobals x=some (some (.ref C))
 up:Exc K "SplitError" CS
 lk:∃nm q N bs sn sub ab col dd k0 k1 k2 k3 k5,K.lookup C=some (excClassObj nm q C N bs (.ref CS :: VEB) true sn sub ab col dd k0 k1 k2 k3 k5 "ValueError.__new__")
 sb:subIn K (.ref C) (.type "BaseException")=some true
 own:subIn K (.ref C) (.ref C)=some true
 fi:findIn K (.ref C) "__init__" = some (some (.ref fI))
 fn:isFn K (.ref fI)=true
 sa:findIn K (.ref C) "__setattr__" = some (some (.builtin "object.__setattr__"))
 nl:findIn K (.ref C) "line" = some none
 rd:readsIn K CS (.type "type")=true
 ci:findCls K (.ref CS) (.type "type") "__init__" = some (.val (.builtin "ValueError.__init__"))
 ga:specialIn K (.ref CS) "__getattribute__" = some (some (.builtin "type.__getattribute__"))
 kp:keepIn K (.ref C)=true
section
variable {K:Θf} {x:Str} {C CS fI:Addr}
theorem ExcN.cls (Z:ExcN K x C CS fI):∃cd,clsIn K C=some cd/\cd.mro = .ref C :: .ref CS :: VEB/\cd.hasDict=true:=by
 obtain ⟨nm,q,N,bs,sn,sub,ab,col,dd,k0,k1,k2,k3,k5,h⟩:=Z.lk
 exact ⟨_,(show clsIn K C=_ by unfold clsIn; rw [h]),rfl,rfl⟩
theorem ExcN.tail {mg:Str->Option Value} {base h:Heap} (Z:ExcN K x C CS fI) (M:Mod K mg base) (p:Program) (bk:∀b o,base.get? b=some o->h.get? b=some o):OwnTail h VEB (.ref CS :: VEB):=by
 obtain ⟨loose,mb,T⟩:=Ks M p
 have W:=PySem.W.own_of_in M.kin T Z.up.ns Z.up.ex
 obtain ⟨tl,N,nm,q,bs,hdct,sn,sub,ab,col,dd,k0,k1,k2,k3,k5,mN,hC,hN,hni,TL⟩:=W.obj
 exact .own (bk _ _ hC) (hN.keeps bk) hni .base
end
section
variable {X:Cx} {x y:Str} {C CS fI:Addr} {np ap apos pos:Pos} {e:Expr} {es:List Expr} {t:TA} {pl:Sem Bool}
theorem Aa6 (Z:ExcN X.K y C CS fI) (hm:X.mg x=some (.ref CS)) (hg:Gl X x) (ha:PA X (e :: es) t) (hdb:(x == ("__debug__":Str))=false:=by decide)
  (hst:starEach (e :: es) X.env=(false,eval e X.env) :: starEach es X.env:=by rfl) (hpl:(backTo pos (starEach es X.env)).any (·.1)=false:=by rfl)
  (ht:eval (.Call (.Attribute (.Name x np) "__init__" apos) (e :: es) [] pos) X.env=(do
   let ov <-eval (.Name x np) X.env
   standAt apos.atName
   let (f,first) <-holding [ov] (getMethod ov "__init__" pl)
   callWith pos f first (backTo pos (starEach (e :: es) X.env)) (backToKw pos (keywordEach [] X.env))):=by rfl)
  (hs:swapsWith (.Call (.Attribute (.Name x np) "__init__" apos) (e :: es) [] pos) none ap.line X.env=pure false:=by rfl) :
  PS X (.Expr (.Call (.Attribute (.Name x np) "__init__" apos) (e :: es) [] pos) ap) (fun D σ H=>t σ H fun vs H1=>∃ea u,vs=[.ref ea,u]/\H1 ea=some (Jf ea C)/\D.nx σ H1):=by
 intro pins s σ H D I h
 refine wpAny_Expr_any (PySem.W.methodCall_KW (pl:=pl) (R9 I hg hm ?_ hdb) ht) I.quiet hs
 refine method_cls I.kIn Z.ga (cls_value I.kIn Z.rd Z.ci rfl ?_)
 have hv:=ha pos pins _ σ H _ (I.tok (s.toks + 1)) h
 rw [hst] at hv ⊢
 refine callWith_of (first:=[]) (P:=fun _=>True) (by show ((false || (backTo pos (starEach es X.env)).any (·.1)) || false)=false; rw [hpl]; rfl) (fun _ _=>⟨.machine,.inr (.inl rfl),Looks.of_pure rfl⟩) (Calls.evalArgs_plain (thn hv fun us s2 h2=>?_))
 obtain ⟨vs,H2,I2,r,ea,u,rfl,hx,q⟩:=h2
 refine ⟨trivial,?_⟩
 obtain ⟨a1,a2,rfl,r1,r2⟩:=Ru r
 cases r1
 obtain ⟨⟨fs,sl,v0,he,h0,h1⟩,_⟩:=(show ObjOk X.prog X.w H2 s2.heap ea (Jf ea C) from I2.hok ea _ hx)
 obtain ⟨nm,qq,N,bs,sn,sub,ab,col,dd,k0,k1,k2,k3,k5,hk⟩:=Z.lk
 have T:=Z.tail I2.ok.mod X.prog I2.bk
 obtain ⟨hp,g,d,tk,os⟩:=s2
 refine Rz T (I2.kIn _ _ hk) he h0 fun h' keep ⟨v1,he'⟩ le=>?_
 have e:upd H2 ea (Jf ea C)=H2:=by
  funext b
  unfold upd
  split
  ·rename_i z
   rw [z,hx]
  ·rfl
 have J:Inv X pins σ H2 ⟨h',g,d,tk,os⟩:=by
  have:=I2.write (t':=tk) (h':=h') (x:=ea) (e:=ea) (o:=Jf ea C) (by rw [hx]; exact True.intro) (.inl rfl) keep ⟨_,he'⟩ ⟨⟨_,sl,v1,he',(by rw [Array.getElem?_setIfInBounds_self_of_lt (Array.getElem?_eq_some_iff.mp h0).1]),(by rw [Array.getElem?_setIfInBounds_ne (by decide)]; exact h1)⟩,⟨_,he'⟩,fun h1 h2' ⟨a,b,c,z⟩ k=>⟨a,b,c,k _ z.1,z.2⟩⟩
  rw [e] at this
  exact this
 exact ⟨σ,H2,J,q⟩
end
section
variable {X:Cx} {y:Str} {C CS fI:Addr} {o value:Expr} {ta tv:TE} {pos pos':Pos}
noncomputable def Ae1 (C:Addr) (ta tv:TE):TS:=fun D σ H=>tv σ H fun yv H1=>ta σ H1 fun x H2=>∃ea k,x = .ref ea/\yv = .int k/\H2 ea=some (Jf ea C)/\∀Dd,H2 Dd=none->D.nx σ (upd (upd H2 Dd (O5 k)) ea (Gh ea C Dd))
theorem Aa7 (Z:ExcN X.K y C CS fI) (ha:PE X o ta) (hv:PE X value tv) (hs:swapsWith value (some (.Attribute o "line" pos')) pos.line X.env=pure false):PS X (.Assign [.Attribute o "line" pos'] value pos) (Ae1 C ta tv):=by
 intro pins s σ H D I h
 refine plainObj_wpAny_Assign_Attribute (thn (hv pins s σ H _ I h) fun u s1 ⟨yv,H1,I1,ry,q⟩=>thn (ha pins s1 σ H1 _ I1 q) fun ov s2 ⟨x,H2,I2,rx,ea,k,ex,ey,hx,q2⟩=>?_) hs
 subst ex ey
 obtain rfl:ov=Value.ref ea:=rx
 obtain ⟨tk,rfl⟩:=ry
 obtain ⟨⟨fs,sl,v0,he,h0,h1⟩,_⟩:=(show ObjOk X.prog X.w H2 s2.heap ea (Jf ea C) from I2.hok ea _ hx)
 obtain ⟨cd,hc,hm,hd⟩:=Z.cls
 refine Abg I2.kIn he Z.sa hc hm hd Z.nl fun h' Dd tk' keep he' le hn=>?_
 have nD:H2 Dd=none:=I2.hok.fresh le
 have neD:Dd≠ea:=(C4 hx nD).symm
 have neA:∀b,H2 b=none->b≠ea:=fun b n=>(C4 hx n).symm
 have oth:∀b (w:HO),H2 b=some w->(∀C,w≠Jf ea C)->b≠ea/\b≠Dd:=fun b w e nw=>⟨fun z=>by rw [z,hx] at e; cases e; exact nw _ rfl,C4 e nD⟩
 have at3:∀b,b≠ea->b≠Dd->(upd (upd H2 Dd (O5 k)) ea (Gh ea C Dd)) b=H2 b:=fun b n1 n2=>by rw [C8 n1,C8 n2]
 have J:Inv X pins σ (upd (upd H2 Dd (O5 k)) ea (Gh ea C Dd)) { s2 with heap:=h',toks:=tk' }:=by
  refine I2.un (h':=h') (t':=tk') ⟨fun b u e n _ _=>keep b u (neA b n) e,fun b u e n _ _=>⟨u.slots,keep b u (neA b n) e⟩,fun b u e n _=>?_,fun b u e _=>?_,fun b xs e=>?_,fun b u xs e=>?_,fun b ps e=>?_⟩ fun b w e=>?_
  ·rw [at3 b (neA b n) (Zs_ (Zq_ (Zn_ e) le))]
   exact n
  ·by_cases z:b=ea
   ·subst z; exact ⟨_,he'⟩
   ·exact ⟨u,keep b u z e⟩
  ·obtain ⟨n1,n2⟩:=oth b _ e fun _ z=>by cases z
   rw [at3 b n1 n2]; exact e
  ·obtain ⟨n1,n2⟩:=oth b _ e fun _ z=>by cases z
   rw [at3 b n1 n2]; exact e
  ·obtain ⟨n1,n2⟩:=oth b _ e fun _ z=>by cases z
   exact ⟨#[],by rw [at3 b n1 n2,e]; simp⟩
  ·by_cases z:b=ea
   ·subst z
    rw [A6] at e
    cases e
    exact ⟨⟨fs,sl,v0,he',h0,h1⟩,⟨_,he'⟩,fun h1 h2' ⟨a,b,c,z⟩ k=>⟨a,b,c,k _ z.1,z.2⟩⟩
   ·rw [C8 z] at e
    by_cases z2:b=Dd
    ·subst z2
     rw [A6] at e
     cases e
     refine ⟨_,hn,fun f=>?_⟩
     by_cases zf:f=Str.ofString "line"
     ·subst zf
      exact ⟨tk,rfl⟩
     ·rw [if_neg zf]
      have:([(Str.ofString "line",V.int k)]:List (Str × V)).lookup f=none:=by
       rw [List.lookup_cons]
       rw [beq_eq_false_iff_ne.mpr zf]
       rfl
      rw [this]
      exact True.intro
    ·rw [C8 z2] at e
     refine (I2.hok b w e).stay (fun c u hc z3=>keep c u ?_ z3) (fun c z3=>?_) fun c xs z3=>?_
     ·rcases hc with rfl | hc
      ·exact z
      ·exact (oth c _ hc fun _ z=>by cases z).1
     ·obtain ⟨n1,n2⟩:=oth c _ z3 fun _ z=>by cases z
      rw [at3 c n1 n2]; exact z3
     ·obtain ⟨n1,n2⟩:=oth c _ z3 fun _ z=>by cases z
      rw [at3 c n1 n2]; exact z3
 exact ⟨σ,_,J,q2 Dd nD⟩
end
noncomputable def Ko (C:Addr):Sp:=fun vs H Q _=>∃(ea:Addr) (k:Int),vs=[.ref ea,.int k]/\k.natAbs.log2 < 1920/\H ea=some (Jf ea C)/\∀D H',(∀b o,b≠ea->H b=some o->H' b=some o)->H D=none->H' D=some (O5 k)->H' ea=some (Gh ea C D)->Q .non H'
section
variable {X:Cx} {x:Str} {C CS fI:Addr} {fd:FuncData} {k:Nat} {np cpos pos:Pos} {e:Expr} {es:List Expr} {t:TA} {EX:XK}
theorem Ck (Z:ExcN X.K x C CS fI) (hg:Gl X x) (hc:X.calm=true) (FI:FnOk X.prog X.w X.K X.mg X.base CX0 k fI fd ["self","line"] (Ko C)) (hr:Room (k + 1) X.A) (hb:Binds X.K fd ["self","line"] []) (ha:PA X (e :: es) t)
  (hout:∀(pins:List (Addr × Obj)) (σ:St) (H:Hp) (s:Shared) (ea D:Addr) (n:Int),Inv X pins σ H s->X.s₀.heap.get? ea=none->H ea=some (Gh ea C D)->H D=some (O5 n)->EX (.ref C) (some D) (Gy H ea)->X.xe (.ref ea) s)
  (hdb:(x == ("__debug__":Str))=false:=by decide) (he:starEach (e :: es) X.env=(false,eval e X.env) :: starEach es X.env:=by rfl) (hpl:(backTo cpos (starEach es X.env)).any (·.1)=false:=by rfl) :
  PS X (.Raise (some (.Call (.Name x np) (e :: es) [] cpos)) none pos) (fun _ σ H=>t σ H fun vs H1=>∃n:Int,vs=[.int n]/\n.natAbs.log2 < 1920/\∀D H',(∀b o,H1 b=some o->H' b=some o)->H' D=some (O5 n)->EX (.ref C) (some D) H'):=by
 intro pins s σ H D I h
 obtain ⟨loose,mb,T⟩:=Ks I.ok.mod X.prog
 have hm:X.mg x=some (.ref C):=PySem.W.mg_of I.ok.mod.kin T.g Z.ns
 obtain ⟨nm,qq,N,bs,sn,sub,ab,col,dd,k0,k1,k2,k3,k5,hk⟩:=id Z.lk
 rw [arm_exec_Raise]
 simp only [evalOpt,Option.map]
 refine Za_ (wpAny_standAt (Os (K:=X.K) Z.sb ⟨_,_,_,hk⟩ (I.ok.hd hc) (Za_ (wpAny_mono (wpAny_Call_Name_kw (R9 I hg hm ?_ hdb)) (fun v s3 h3=>Za_ (wpAny_standAt (Zb_ h3))) fun _ _ z=>z))))
 refine PySem.W.callWith_K (h₀:=X.base) I.ok.mod.kin Z.kp (thn (ha cpos pins s σ H _ I h) fun us s1 h1=>?_) he hpl
 obtain ⟨vs,H1,I1,r,n,rfl,hn,q⟩:=h1
 refine ⟨I1.kIn,?_⟩
 obtain ⟨u,rfl,ru⟩:=V6 r
 have TL:=Z.tail I1.ok.mod X.prog I1.bk
 have sz:=I1.sz
 obtain ⟨hp,g,d,tk,os⟩:=s1
 refine Va I1.kIn PySem.F.excBase_ValueError TL (I1.kIn _ _ hk) Z.own Z.fi Z.fn (by show 1<=sizeLine; decide) fun h' hmd=>?_
 obtain ⟨ta,hea,_,_⟩:=hmd.there
 have fr:X.s₀.heap.get? (hp.objs.size + 1)=none:=Heap.get?_none_of_le (Zo_ sz (Nat.le_succ _))
 have hn1:H1 (hp.objs.size + 1)=none:=I1.hok.fresh (Nat.le_succ _)
 have I2:Inv X pins σ (upd H1 (hp.objs.size + 1) (Jf (hp.objs.size + 1) C)) ⟨h',g,d,tk,os⟩:=I1.laid (t':=tk) (h':=h') hmd.keeps (Nat.le_succ _) ⟨⟨_,_,ta,hea,rfl,rfl⟩,⟨_,hea⟩,fun h1 h2' ⟨a,b,c,z⟩ k=>⟨a,b,c,k _ z.1,z.2⟩⟩
 generalize hp.objs.size + 1=ea at *
 have r2:Vals [V.ref ea,V.int n] [Value.ref ea,u]:=.cons rfl (.cons ru .nil)
 have hb2:=hb ⟨h',g,d,tk,os⟩ [Value.ref ea,u] I2.kIn rfl
 refine wpAny_call (codeAny_mono (FI.run _ X.stack _ _ ⟨[Value.ref ea,u],[]⟩ [Value.ref ea,u] _ (fun v H3=>v = .non/\∃D,(∀b o,H1 b=some o->H3 b=some o)/\H3 D=some (O5 n)/\H3 ea=some (Gh ea C D)) (fun _ _ _=>False) (hr.make C [u] []) (I2.env0.make C [u] []) hb2 r2 ⟨ea,n,rfl,hn,A6,fun D2 H3 k3 n3 l3 e3=>⟨rfl,D2,fun b o z=>?_,l3,e3⟩⟩) fun r s' hq'=>?_)
 ·have nb:=C4 z hn1
  exact k3 b o nb ((C8 nb).trans z)
 cases r with
 | error e=>exact False.elim hq'
 | ok fl=>
  cases fl with
  | ret u=>
   obtain ⟨v,H3,I3,rv,ev,D2,k3,l3,e3⟩:=I2.after hq'
   subst ev
   obtain ⟨⟨fs,sl,v0,ge,g0,g1⟩,_⟩:=(show ObjOk X.prog X.w H3 s'.heap ea (Gh ea C D2) from I3.hok ea _ e3)
   have De:D2≠ea:=fun z=>by rw [z,e3] at l3; cases l3
   refine ⟨rv,ea,_,fs,rfl,I3.kIn,ge,rfl,rfl,g1,hout pins σ H3 s' ea D2 n I3 fr e3 l3 (q D2 _ (fun b o z=>?_) (by rw [Q2 De]; exact l3))⟩
   rw [Q2 (C4 z hn1)]
   exact k3 b o z
  | next=>exact False.elim hq'
  | brk=>exact False.elim hq'
  | cont=>exact False.elim hq'
end
noncomputable abbrev Cx.tried2 (X:Cx) (p0:List (Addr × Obj)) (ET:St->XK):Cx:=
 { X with pn:=X.pn++p0,xe:=fun e s'=>∃σ' H1 s1,Inv X p0 σ' H1 s1/\CX2 X.prog X.w X.stack H1 s1 (ET σ') e s' }
section
variable {X:Cx} {p0 pins:List (Addr × Obj)} {σ:St} {H:Hp} {s:Shared} {ET:St->XK}
theorem Inv.intoT2 (I:Inv X p0 σ H s):Inv (X.tried2 p0 ET) [] σ H s:=
 ⟨⟨I.ok.mod,I.ok.kind,I.ok.glob,I.ok.blt,I.ok.above,I.ok.inj,I.ok.has,I.ok.cab,I.ok.hd,I.ok.frames,I.ok.stk,I.ok.exf,I.ok.bs,I.ok.bsz,I.ok.noex,I.ok.exfs,I.ok.funs,I.ok.frf⟩,I.os,I.bare,I.base,I.loc,I.cell,I.free,I.freeC,(fun p hp=>I.pin p (by rw [List.append_nil] at hp; exact hp)),I.hok,I.len⟩
theorem Inv.outT2 (I:Inv (X.tried2 p0 ET) pins σ H s):Inv X p0 σ H s:=
 ⟨⟨I.ok.mod,I.ok.kind,I.ok.glob,I.ok.blt,I.ok.above,I.ok.inj,I.ok.has,I.ok.cab,I.ok.hd,I.ok.frames,I.ok.stk,I.ok.exf,I.ok.bs,I.ok.bsz,I.ok.noex,I.ok.exfs,I.ok.funs,I.ok.frf⟩,I.os,I.bare,I.base,I.loc,I.cell,I.free,I.freeC,(fun p hp=>I.pin p (Zt_ _ hp)),I.hok,I.len⟩
end
section
variable {X:Cx} {e:Expr} {ta:TE} {pos:Pos}
structure ExcG (K:Θf) (C:Addr):Prop where
 i:ExcI K C
 cl:∃cd,clsIn K C=some cd/\cd.hasDict=true
 nl:findIn K (.ref C) "line" = some none
noncomputable def Ab5 (K:Θf) (ta:TE):TE:=fun σ H Q=>ta σ H fun x H1=>∃ea C D n,x = .ref ea/\ExcG K C/\H1 ea=some (Nn ea C D)/\H1 D=some (O5 n)/\Q (.int n) H1
theorem Aa3 (he:PE X e ta) (hb:attributeBase e "line" X.env (eval e X.env)=eval e X.env):PE X (.Attribute e "line" pos) (Ab5 X.K ta):=by
 intro pins s σ H Q I h
 refine Qb hb (thn (he pins s σ H _ I h) fun u s1 ⟨x,H1,I1,rx,ea,C,D,n,ex,G,hx,hD,q⟩=>?_)
 subst ex
 obtain rfl:u=Value.ref ea:=rx
 obtain ⟨⟨vs,sl,g1⟩,_⟩:=(show ObjOk X.prog X.w H1 s1.heap ea (Nn ea C D) from I1.hok ea _ hx)
 obtain ⟨mA,g2,g3⟩:=(show ObjOk X.prog X.w H1 s1.heap D (O5 n) from I1.hok D _ hD)
 obtain ⟨cd,hc,hd⟩:=G.cl
 have g4:=g3 (Str.ofString "line")
 cases em:mA (Str.ofString "line") with
 | none=>rw [em] at g4; exact False.elim g4
 | some v=>
  rw [em] at g4
  obtain ⟨tk,rfl⟩:=(show ∃tk,v=Value.int n tk from g4)
  exact Zy G.i I1.kIn g1 hc hd G.nl g2 em rfl ⟨.int n,H1,I1.tok _,⟨tk,rfl⟩,q⟩
end
section
variable {X:Cx} {body hb:List Stmt} {b₀:Stmt} {tb:(St->XK)->TS} {th:TS} {cx n:Str} {c:Value} {cp hp pos:Pos} {l:Nat}
noncomputable def Afe (K:Θf) (c:Value) (l:Nat) (tb:(St->XK)->TS) (th:TS):TS:=fun D σ H=>
 tb (fun σ' cls d H2=>∃C Dd k,cls = .ref C/\d=some Dd/\PySem.W.exmOne K (.ref C) c=some true/\H2 Dd=some (O5 k)/\∀ea,H2 ea=none->th { nx:=fun σ2 H3=>D.nx (σ2.set l none) H3,rt:=fun _ _=>False } (σ'.set l (some (.ref ea))) (upd H2 ea (Nn ea C Dd))) D σ H
theorem Aa8 (hb':∀p0 ET,PSs (X.tried2 p0 ET) body (tb ET)) (hh:∀ea,PSs (X.within ea) (b₀ :: hb) th) (hg:Gl X cx) (hm:X.mg cx=some c) (hst:X.stack=X.env :: X.outer) (hfr:X.env.frame=some X.env.locals) (hN:X.N.Nodup)
  (hl:X.N[l]? = some n) (hnl:X.env.scope.names.lookup n=some .local) (hdb:(cx == ("__debug__":Str))=false:=by decide) :
  PS X (.Try body [.ExceptHandler (some (.Name cx cp)) (some n) (b₀ :: hb) hp] [] [] pos) (Afe X.K c l tb th):=by
 intro pins s σ H D I h
 refine wpAny_Try_except (wpAny_mono (hb' pins _ [] s σ H D I.intoT2 h) (fun f s1 q=>?_) fun e s1 q=>?_)
 ·cases f with
  | next=>
   obtain ⟨σ',H',I',q⟩:=q
   exact wpAny_execs_nil ⟨σ',H',I'.outT2,q⟩
  | ret v=>
   obtain ⟨v',σ',H',I',r,q⟩:=q
   exact ⟨v',σ',H',I'.outT2,r,q⟩
  | brk=>
   obtain ⟨σ',H',I',q⟩:=q
   exact ⟨σ',H',I'.outT2,q⟩
  | cont=>
   obtain ⟨σ',H',I',q⟩:=q
   exact ⟨σ',H',I'.outT2,q⟩
 ·obtain ⟨σ',H1,s2,I1,ea,C,B,H',D',k',rfl,F,hD',hd,C',Dd,k,ec,ed,hex,hk,q⟩:=q
  obtain rfl:C=C':=by injection ec
  obtain rfl:D' = Dd:=by injection ed
  obtain ⟨a0,fl⟩:=F.fly
  have hframes:X.A.frames=some (X.env :: X.outer):=by rw [<-hst]; exact I1.ok.frames
  have fl':=fl
  rw [hst] at fl'
  refine wpAny_mono (R7 (D:=D') (Io _ _) hd (wpAny_looks_onW (Q:=fun _ s4=>∃h4,s4={ s1 with heap:=h4 }/\Heap.HeldW B (X.env :: X.outer) ea (.ref C) a0 X.env.locals h4/\s1.heap.UpToSlots h4) hframes hfr fl' fun h4 held sm4=>⟨h4,rfl,held,sm4⟩)) (fun _ s4 ⟨⟨h4,e4,held,sm4⟩,hd4⟩=>?_) fun _ _ z=>z.1
  subst e4
  refine wpAny_mono (R7 (D:=D') (X5 _ _) hd4 (wpAny_landsW (Q:=fun _ s5=>∃h5,s5={ s1 with heap:=h5 }/\Heap.FlyingW B (X.env :: X.outer) ea (.ref C) a0 h5/\h4.UpToSlots h5) held fun h5 fl5 sm5=>⟨h5,rfl,fl5,sm5⟩)) (fun _ s5 ⟨⟨h5,e5,fl5,sm5⟩,hd5⟩=>?_) fun _ _ z=>z.1
  subst e5
  rw [<-hst] at fl5
  have J5:=F.landed2 I1 fl5 (sm4.trans sm5) hd5
  refine wpAny_handleBy_cons (codeAny_handlers_test ?_) (by intro q; cases q)
  refine Calls.Name_function_global J5.ok.kind hg (Calls.loadGlobal_global (by rw [J5.ok.glob]; exact J5.mod.glob.keeps J5.bk) hm ?_) hdb
  obtain ⟨ob,hob,hobc⟩:=fl5.there
  have LT:PySem.W.Looks (model X.prog X.w) h5 (typeOf (.ref ea)) (.ref C):=hobc ▸ (PySem.W.Looks.ld hob).andThen .now
  refine (PySem.W.exm_one J5.kIn LT hex).here ?_
  refine codeAny_handlers_suite_as ?_
  refine wpAny_mono (R7 (D:=D') (X5 _ _) hd5 (lands_againW (Q:=fun _ s6=>∃h6,s6={ s1 with heap:=h6 }/\Heap.FlyingW B X.stack ea (.ref C) a0 h6/\h5.UpToSlots h6) fl5 fun h6 fl6 sm6=>⟨h6,rfl,fl6,sm6⟩)) (fun _ s6 ⟨⟨h6,e6,fl6,sm6⟩,hd6⟩=>?_) fun _ _ z=>z.1
  subst e6
  have J6:=F.landed2 I1 fl6 ((sm4.trans sm5).trans sm6) hd6
  refine X3 (v:=.ref ea) J6 hN hl (.inl hnl) rfl (fun s7 J7=>?_) (.inr hnl)
  refine wpAny_mono (hh ea pins s7 _ _ { nx:=fun σ2 H3=>D.nx (σ2.set l none) H3,rt:=fun _ _=>False } (J7.inS ea) (q ea F.fresh)) (fun f s8 q8=>?_) fun _ _ z=>z.elim
  cases f with
  | next=>
   obtain ⟨σ2,H2,J8,q9⟩:=q8
   have J8:=J8.outS I.ok.hd
   exact J8.goes hN hl hnl fun s9 J9=>⟨_,_,J9,q9⟩
  | ret v=>obtain ⟨_,_,_,_,_,z⟩:=q8; exact z.elim
  | brk=>obtain ⟨_,_,_,z⟩:=q8; exact z.elim
  | cont=>obtain ⟨_,_,_,z⟩:=q8; exact z.elim
end
end L2
namespace L2
open PySem PySem.Spec PyProof.Rows
section
variable {X:Cx} {k:Nat} {f C:Addr} {fd:FuncData} {ps:List Str} {sp:Sp} {m y:Str} {yp ap apos pos:Pos} {o e:Expr} {es:List Expr} {ta:TE} {t:TA} {i:Nat} {pl:Sem Bool}
end
theorem via {G:St->Hp->Prop} (M:(St->Hp->Prop)->Prop) {R:Prop} (use:M G->R) (main:M G):R:=use main
theorem Aw {c:Nat}:∀ps:List Str,ps.length<=(Str.join ⟨#[c]⟩ ps).length + 1
 | []=>by simp
 | [p]=>by simp
 | p :: q :: r=>by
  have e:Str.join ⟨#[c]⟩ (p :: q :: r)=p++⟨#[c]⟩++Str.join ⟨#[c]⟩ (q :: r):=rfl
  have h:=Aw (c:=c) (q :: r)
  rw [e,Str.length_append,Str.length_append]
  have:(⟨#[c]⟩:Str).length=1:=rfl
  simp only [List.length_cons] at h ⊢
  omega
theorem V3 (t:Str) (c:Nat):(Txt.split t ⟨#[c]⟩).length<=t.length + 1:=by
 have h1:Str.join ⟨#[c]⟩ (Txt.split t ⟨#[c]⟩)=t:=StrLaws.join_split t ⟨#[c]⟩
 have:=Aw (c:=c) (Txt.split t ⟨#[c]⟩)
 rw [h1] at this
 exact this
theorem Fg {c:Nat}:∀{ps:List Str} {p:Str},p∈ps->p.length<=(Str.join ⟨#[c]⟩ ps).length
 | [],_,h=>by cases h
 | [x],p,h=>by rw [Θs h]; exact Zd_ _
 | x :: y :: r,p,h=>by
  have e:Str.join ⟨#[c]⟩ (x :: y :: r)=x++⟨#[c]⟩++Str.join ⟨#[c]⟩ (y :: r):=rfl
  rw [e,Str.length_append,Str.length_append]
  rcases Zg_.mp h with rfl | h
  ·omega
  ·have:=Fg (c:=c) h
   omega
theorem Hw {c d:Nat}:∀{ps:List Str} {p:Str},p∈ps->d∈p.cps.toList->d∈(Str.join ⟨#[c]⟩ ps).cps.toList
 | [],_,h,_=>by cases h
 | [x],p,h,hd=>by rw [<-Θs h]; exact hd
 | x :: y :: r,p,h,hd=>by
  have e:Str.join ⟨#[c]⟩ (x :: y :: r)=x++⟨#[c]⟩++Str.join ⟨#[c]⟩ (y :: r):=rfl
  rw [e]
  rcases Zg_.mp h with rfl | h
  ·exact Abz (Abz hd)
  ·exact Aes (Hw h hd)
theorem Il {t:Str} {c:Nat} (l:t.length<=1000) (a:∀d∈t.cps.toList,d < 128):∀w∈Txt.split t ⟨#[c]⟩,Asc w:=fun w hw=>by
 have h1:Str.join ⟨#[c]⟩ (Txt.split t ⟨#[c]⟩)=t:=StrLaws.join_split t ⟨#[c]⟩
 refine ⟨Zo_ (Fg (c:=c) hw) (by rw [h1]; exact l),fun d hd=>a d ?_⟩
 have:=Hw (c:=c) hw hd
 rw [h1] at this
 exact this
theorem Hk {z:Str} (h:P4 z=true):∃b,z=D6 b:=by
 unfold P4 at h
 rw [Bool.or_eq_true,decide_eq_true_iff,decide_eq_true_iff] at h
 rcases h with rfl | rfl
 ·exact ⟨true,rfl⟩
 ·exact ⟨false,rfl⟩
theorem Fe {A A' B B':List Str} {w w':Str} (hA:∀v∈A,P4 v=false) (hA':∀v∈A',P4 v=false) (hw:P4 w=true) (hw':P4 w' = true) (e:A++w :: B=A'++w' :: B'):A=A'/\w=w'/\B=B':=by
 induction A generalizing A' with
 | nil=>
  cases A' with
  | nil=>
   injection e with e1 e2
   exact ⟨rfl,e1,e2⟩
  | cons x A'=>
   injection e with e1 _
   have:=hA' x (Θc ..)
   rw [<-e1,hw] at this
   cases this
 | cons y A ih=>
  cases A' with
  | nil=>
   injection e with e1 _
   have:=hA y (Θc ..)
   rw [e1,hw'] at this
   cases this
  | cons x A'=>
   injection e with e1 e2
   obtain ⟨h1,h2⟩:=ih (A':=A') (fun v hv=>hA v (Θd _ hv)) (fun v hv=>hA' v (Θd _ hv)) e2
   exact ⟨by rw [e1,h1],h2⟩
theorem Qs {ws:List Str} {k:Nat} {w:Str} (h:ws[k]? = some w):ws=ws.take k++w :: ws.drop (k + 1):=by
 obtain ⟨hk,e⟩:=Ze_.mp h
 have:=List.take_append_drop k ws
 rw [List.drop_eq_getElem_cons hk,e] at this
 exact this.symm
noncomputable def Bq:Sp:=fun vs H Q _=>∃t:Str,vs=[.str t]/\t.length<=290/\(∀c∈t.cps.toList,c < 128)/\
 (∀ws (l:Addr) (H':Hp),Txt.split t spaceS=columnsS :: ws->K4 ws=true->Same H H'->H l=none->H' l=some (.lst (ws.map V.str))->Q (.ref l) H')/\((∀ws,Txt.split t spaceS=columnsS :: ws->K4 ws=false)->∀H',Same H H'->Q .non H')
noncomputable def Dl (K:Θf):Sp:=fun vs H Q _=>∃(np:Addr) (nms:List Str) (t:Str),vs=[.ref np,.str t]/\NAt K H np nms/\NM nms/\NW nms/\t.length<=290/\
 (∀(r:RD) (l:Addr) (H':Hp),InR nms r->r.2.2≠0->Txt.split t spaceS=G6 nms r->Same H H'->H l=none->K8 H' l r.1 r.2.1 r.2.2->Q (.ref l) H')/\((∀r,InR nms r->r.2.2≠0->Txt.split t spaceS≠G6 nms r)->∀H',Same H H'->Q .non H')
theorem Bg {X:Cx} {st:List Stmt}:PSs X st (fun _ _ _=>False):=fun _ _ _ _ _ _ h=>h.elim
section
variable {m:Nat} {o:List Nat}
variable {rs rs':List RD}
end
end L2
namespace L2
open PySem PySem.Spec PySem.W PyProof.Rows
namespace ST
section
variable {prog:Program} {w:World} {A:Around} {E:Value->Shared->Prop} {s:Shared} {a:Addr}
end
end ST
section
variable {X:Cx} {K:Θf}
end
end L2
namespace L2
open PySem PySem.Spec PyProof.Rows
inductive All2 {α β:Type} (R:α->β->Prop):List α->List β->Prop
 | nil:All2 R [] []
 | cons {a b as bs}:R a b->All2 R as bs->All2 R (a :: as) (b :: bs)
section
variable {α β:Type} {R:α->β->Prop} {a:α} {b:β} {as:List α} {bs:List β}
theorem All2.snoc (h:All2 R as bs) (r:R a b):All2 R (as++[a]) (bs++[b]):=by
 induction h with
 | nil=>exact .cons r .nil
 | cons r' _ ih=>exact .cons r' ih
theorem All2.len (h:All2 R as bs):as.length=bs.length:=by
 induction h with
 | nil=>rfl
 | cons _ _ ih=>rw [ZA,ZA,ih]
theorem All2.get (h:All2 R as bs):∀{i:Nat},as[i]? = some a->bs[i]? = some b->R a b:=by
 induction h with
 | nil=>intro i e; cases e
 | cons r _ ih=>
  intro i e1 e2
  cases i with
  | zero=>cases e1; cases e2; exact r
  | succ i=>exact ih e1 e2
end
theorem Pj {t w:Str} {c:Nat} (hw:w∈Txt.split t ⟨#[c]⟩):w.length<=t.length:=by
 have h1:Str.join ⟨#[c]⟩ (Txt.split t ⟨#[c]⟩)=t:=StrLaws.join_split t ⟨#[c]⟩
 have h2:=Fg (c:=c) hw
 rw [h1] at h2
 exact h2
noncomputable def Zn:Ask->Bool
 | .show=>true
 | .fol _ _ _=>true
 | .keys=>true
 | .cover=>true
 | _=>false
noncomputable def Kv (nms:List Str) (ds:List RD):Ask->Str
 | .show=>O4 nms ds
 | .fol st x y=>Vn nms ds st x y
 | .keys=>Yr nms (R3 nms.length ds (K2 nms.length))
 | .cover=>Acz9 nms (Nj nms.length ds)
 | _=>dashS
noncomputable def RdS (nms:List Str) (w:Str) (s:Nat):Prop:=(w=dashS/\s=0)\/(w≠dashS/\s < 2 ^ nms.length/\Txt.split w commaS=E6 nms s)
theorem RdS.ok {nms:List Str} {w:Str} {s:Nat} (h:RdS nms w s):¬O6 nms w:=fun n=>by
 rcases h with ⟨e,_⟩ | ⟨_,h1,h2⟩
 ·exact n.1 e
 ·exact n.2 s h1 h2
noncomputable def Dk (fs ws:List Str):List Str:=((fs.zip ws).filter fun p=>decide (p.1=F0)).map (·.2)
noncomputable def Mx (K:Θf) (CR:Addr):Sp:=fun vs H Q E=>∃v:V,vs=[v]/\((∃z,v = .str z/\z.length<=290/\∀(l:Addr) (H':Hp),Same H H'->H l=none->H' l=some (.lst ((Txt.split z spaceS).map V.str))->Q (.ref l) H')\/
 ∃t,TyOf K H v t/\PySem.W.kitOne K t (.type "str")=some false/\E (.ref CR) none H)
noncomputable def Rj (K:Θf) (fas:List Addr) (CR:Addr):Sp:=fun vs H Q E=>∃(wp:Addr) (ws:List Str),vs=[.ref wp]/\SqL K H wp (ws.map V.str)/\ws.length<=300/\
 (∀(k:Nat) fa fs,fas[k]? = some fa->formsL[k]? = some fs->P9 ws fs=true->∀H',Same H H'->Q (.ref fa) H')/\((∀fs∈formsL,P9 ws fs=false)->∀H',Same H H'->E (.ref CR) none H')
noncomputable def Yx (CD CS CM:Addr):Sp:=fun vs H _ E=>∃(d np rl r:Addr) (xs:List V) (w:Str) (x y:Nat),vs=[.ref d,.ref r]/\DeskAt H CD d np rl/\H rl=some (.lst xs)/\xs.length<=12/\H r=some (.tup [.str w,vN x,vN y])/\
 (y=0->E (.ref CS) none H)/\(y≠0->12<=xs.length/\E (.ref CM) none H)
noncomputable def Ri (CD CR:Addr):Sp:=fun vs H _ E=>∃(d np rl:Addr) (xs:List V) (w:Str),vs=[.ref d,.str w]/\DeskAt H CD d np rl/\H rl=some (.lst xs)/\xs.length<=12/\(∀i,i < xs.length->w≠O0 i)/\∀H',Same H H'->E (.ref CR) none H'
noncomputable def Yu (CC:Addr):Sp:=fun vs H _ E=>∃(m x y:Nat) (rl:Addr),vs=[vN m,.ref rl,vN x,vN y]/\m<=7/\x|||y < 2 ^ m - 1/\∀H',Same H H'->E (.ref CC) none H'
noncomputable def Dq:Str:=Str.ofString "cut"
noncomputable def AnsW (nms:List Str) (rs:List Rl) (CC:Addr) (ws:List Str) (ss:List Nat) (H:Hp) (Q:VK) (E:XK):Prop:=
 (∃a,ws=U4 nms a/\ss=Aec a/\Ef nms.length a/\Zn a=true/\∀H',Same H H'->Q (.str (Kv nms (rs.map Rl.d) a)) H')\/
 ∃w1 w2 x y,ws=[Dq,w1,w2]/\ss=[x,y]/\x|||y < 2 ^ nms.length - 1/\∀H',Same H H'->E (.ref CC) none H'
noncomputable def Yt (K:Θf) (CC:Addr):Sp:=fun vs H Q E=>∃(np rl wp sl:Addr) (nms:List Str) (rs:List Rl) (ws:List Str) (ss:List Nat),vs=[.ref np,.ref rl,.ref wp,.ref sl]/\H np=some (.lst (nms.map V.str))/\NM nms/\SqL K H rl (rs.map fun r=>V.ref r.r)/\RulesAt H nms.length rs/\rs.length<=12/\
 SqL K H wp (ws.map V.str)/\SqL K H sl (ss.map vN)/\AnsW nms rs CC ws ss H Q E
noncomputable def RowT (nms:List Str) (rs:List Rl) (CR CS CC CM:Addr) (ws:List Str) (ss:List Nat) (H:Hp) (Q:VK) (E:XK):Prop:=
 (∃w1 w2 w3 x y,ws=[Jk,w1,w2,w3]/\ss=[x,y]/\(y=0->∀H',Same H H'->E (.ref CS) none H')/\(y≠0->rs.length=12/\∀H',Same H H'->E (.ref CM) none H'))\/
 (∃w,ws=[Eo,w]/\(∀i,i < rs.length->w≠O0 i)/\∀H',Same H H'->E (.ref CR) none H')\/AnsW nms rs CC ws ss H Q E
noncomputable def Ab7 (nms:List Str) (rs:List Rl) (CR CS CC CM:Addr) (z:Str) (H:Hp) (Q:VK) (E:XK):Prop:=
 z.length<=290/\(∀c∈z.cps.toList,c < 128)/\(((∀fs∈formsL,P9 (Txt.split z spaceS) fs=false)/\∀H',Same H H'->E (.ref CR) none H')\/
 ∃fs∈formsL,P9 (Txt.split z spaceS) fs=true/\(∀gs∈formsL,P9 (Txt.split z spaceS) gs=true->gs=fs)/\(∀w∈Dk fs (Txt.split z spaceS),O6 nms w->∀H',Same H H'->E (.ref CS) none H')/\
  ∀ss,All2 (RdS nms) (Dk fs (Txt.split z spaceS)) ss->RowT nms rs CR CS CC CM (Txt.split z spaceS) ss H Q E)
noncomputable def Cr (K:Θf) (CD CR CS CC CM:Addr):Sp:=fun vs H Q E=>∃(d np rl:Addr) (nms:List Str) (rs:List Rl) (v:V),vs=[.ref d,v]/\DeskAt H CD d np rl/\H np=some (.lst (nms.map V.str))/\NM nms/\H rl=some (.lst (rs.map fun r=>V.ref r.r))/\RulesAt H nms.length rs/\rs.length<=12/\
 ((∃t,TyOf K H v t/\PySem.W.kitOne K t (.type "str")=some false/\E (.ref CR) none H)\/∃z,v = .str z/\Ab7 nms rs CR CS CC CM z H Q E)
theorem PS.nox5 {X:Cx} {st:Stmt} {t:TS} (h:PS X.nox st t):PS X st t:=fun pins s σ H D I hw=>wpAny_mono (h pins s σ H D (I.wish _) hw) (fun _ _ q=>q.unwish) fun _ _ z=>z.elim
theorem AnsW.same {nms:List Str} {rs:List Rl} {CC:Addr} {ws:List Str} {ss:List Nat} {H H1:Hp} {Q:VK} {E:XK} (h:AnsW nms rs CC ws ss H Q E) (s:Same H H1):AnsW nms rs CC ws ss H1 Q E:=by
 rcases h with ⟨a,h1,h2,h3,h4,h5⟩ | ⟨w1,w2,x,y,h1,h2,h3,h6⟩
 ·exact .inl ⟨a,h1,h2,h3,h4,fun H' s'=>h5 H' (s.trans s')⟩
 ·exact .inr ⟨w1,w2,x,y,h1,h2,h3,fun H' s'=>h6 H' (s.trans s')⟩
theorem RowT.same {nms:List Str} {rs:List Rl} {CR CS CC CM:Addr} {ws:List Str} {ss:List Nat} {H H1:Hp} {Q:VK} {E:XK} (h:RowT nms rs CR CS CC CM ws ss H Q E) (s:Same H H1):RowT nms rs CR CS CC CM ws ss H1 Q E:=by
 rcases h with ⟨w1,w2,w3,x,y,h1,h2,h3,h4⟩ | ⟨z,h1,h2,h3⟩ | h
 ·exact .inl ⟨w1,w2,w3,x,y,h1,h2,fun e H' s'=>h3 e H' (s.trans s'),fun e=>⟨(h4 e).1,fun H' s'=>(h4 e).2 H' (s.trans s')⟩⟩
 ·exact .inr (.inl ⟨z,h1,h2,fun H' s'=>h3 H' (s.trans s')⟩)
 ·exact .inr (.inr (h.same s))
theorem FnOk.calm2 {P:Program} {w:World} {K:Θf} {mg:Str->Option Value} {base:Heap} {k:Nat} {f:Addr} {fd:FuncData} {ps:List Str} {sp:Sp} (F:FnOk P w K mg base (CX2 P w) k f fd ps sp) :
  FnOk P w K mg base CX0 k f fd ps (fun vs H Q _=>sp vs H Q fun _ _ _=>False):=
 ⟨fun vs H Q _ h=>F.len vs H Q _ h,fun A outer s H args us vs Q E hr he hb hv hs=>codeAny_mono (F.run A outer s H args us vs Q _ hr he hb hv hs) fun r s' h=>by
  cases r with
  | error e=>
   obtain ⟨_,_,_,_,_,_,_,_,_,_,z⟩:=(show CX2 P w outer H s (fun _ _ _=>False) e s' from h)
   exact z.elim
  | ok fl=>
   cases fl with
   | ret u=>exact h
   | next=>exact h
   | brk=>exact h
   | cont=>exact h⟩
theorem Ua {nms:List Str} {r r':RD} (NN:NM nms) (NNW:NW nms) (h:InR nms r) (h':InR nms r') (e:G6 nms r=G6 nms r'):r=r':=by
 obtain ⟨b,x,y⟩:=r
 obtain ⟨b',x',y'⟩:=r'
 obtain ⟨e1,e2,e3⟩:=Fe (fun v hv=>NNW v (N2 NN h.1 hv)) (fun v hv=>NNW v (N2 NN h'.1 hv)) (S4 _) (S4 _) e
 have ex:=Jj NN h.1 h'.1 e1
 have ey:=Jj NN h.2 h'.2 e3
 have eb:b=b':=by
  replace e2:D6 b=D6 b':=e2
  cases b <;> cases b' <;> first | rfl | exact absurd e2 (by decide)
 simp only at ex ey
 rw [ex,ey,eb]
noncomputable def Ur (nms:List Str) (t:Str):Option RD->Prop
 | some r=>InR nms r/\r.2.2≠0/\Txt.split t spaceS=G6 nms r
 | none=>∀r,InR nms r->r.2.2≠0->Txt.split t spaceS≠G6 nms r
noncomputable def Q7 (K:Θf) (CN:Addr):Sp:=fun vs H Q E=>∃v:V,vs=[v]/\
 ((∃t,TyOf K H v t/\PySem.W.kitOne K t (.type "str")=some false/\∀D H',Same H H'->H' D=some (O5 0)->E (.ref CN) (some D) H')\/
 ∃(z l0:Str) (ls:List Str),v = .str z/\z.length<=3000/\Txt.split z nlS=l0 :: ls/\ls.length<=13/\(∀l∈l0 :: ls,l.length<=290/\∀c∈l.cps.toList,c < 128)/\
  (((∀ws,Txt.split l0 spaceS=columnsS :: ws->K4 ws=false)/\∀D H',Same H H'->H' D=some (O5 0)->E (.ref CN) (some D) H')\/
  ∃(nms:List Str) (os:List (Option RD)),Txt.split l0 spaceS=columnsS :: nms/\K4 nms=true/\NM nms/\NW nms/\All2 (Ur nms) ls os/\
   ((∃i:Nat,os[i]? = some none/\(∀j,j < i->os[j]?≠some none)/\i<=12/\∀D H',Same H H'->H' D=some (O5 ((i + 1:Nat):Int))->E (.ref CN) (some D) H')\/
   ∃rs,os=rs.map some/\rs.length<=12/\∀(t nl rl:Addr) (ks:List Rl) (H':Hp),Same H H'->H nl=none->H rl=none->nl≠rl->ks.map Rl.d=rs->RulesAt H' nms.length ks->H' t=some (.tup [.ref nl,.ref rl])->H' nl=some (.lst (nms.map V.str))->H' rl=some (.lst (ks.map fun r=>V.ref r.r))->(∀r∈ks,r.r≠nl/\r.r≠rl)->Q (.ref t) H')))
theorem FnOk.weak {CX:CXT} {P:Program} {w:World} {K:Θf} {mg:Str->Option Value} {base:Heap} {k:Nat} {f:Addr} {fd:FuncData} {ps:List Str} {sp sp':Sp} (F:FnOk P w K mg base CX k f fd ps sp) (h:∀vs H Q E,sp' vs H Q E->sp vs H Q E):FnOk P w K mg base CX k f fd ps sp':=
 ⟨fun vs H Q E hs=>F.len vs H Q E (h _ _ _ _ hs),fun A outer s H args us vs Q E hr he hb hv hs=>F.run A outer s H args us vs Q E hr he hb hv (h _ _ _ _ hs)⟩
theorem Tz {K:Θf} {CN:Addr} {vs:List V} {H:Hp} {Q Q':VK} {E:XK} (h:Q7 K CN vs H Q E) (k:∀v H',Q v H'->Q' v H'):Q7 K CN vs H Q' E:=by
 obtain ⟨v,e,h⟩:=h
 refine ⟨v,e,?_⟩
 rcases h with h | ⟨z,l0,ls,h1,h2,h3,h4,h5,h⟩
 ·exact .inl h
 refine .inr ⟨z,l0,ls,h1,h2,h3,h4,h5,?_⟩
 rcases h with h | ⟨nms,os,g1,g2,g3,g4,g5,h⟩
 ·exact .inl h
 refine .inr ⟨nms,os,g1,g2,g3,g4,g5,?_⟩
 rcases h with h | ⟨rs,e1,e2,q⟩
 ·exact .inl h
 ·exact .inr ⟨rs,e1,e2,fun t nl rl ks H' a1 a2 a3 a4 a5 a6 a7 a8 a9 a10=>k _ _ (q t nl rl ks H' a1 a2 a3 a4 a5 a6 a7 a8 a9 a10)⟩
noncomputable def Fw (K:Θf) (CD CN:Addr):Sp:=fun vs H Q E=>∃(d dx:Addr) (v:V),vs=[.ref d,v]/\Q7 K CN [v] H (fun u H1=>∃t nl rl,u = .ref t/\H1 t=some (.tup [.ref nl,.ref rl])/\H1 d=some (.ins CD dx [])/\∀H2,But d H1 H2->DeskAt H2 CD d nl rl->Q .non H2) E
section
variable {X:Cx} {k:Nat} {f C:Addr} {fd:FuncData} {ps:List Str} {sp:Sp} {m:Str} {ap apos pos:Pos} {o e:Expr} {es:List Expr} {ta:TE} {t:TA} {pl:Sem Bool}
theorem Xt (he:∀E',PE (X.wish E') o ta) (c:Cls X.K C) (hm:Meth X.K C m f) (F:FnOk X.prog X.w X.K X.mg X.base (CX1 X.prog X.w) k f fd ps sp) (hr:Room k X.A) (hb:Binds X.K fd ps [])
  (ha:∀E',PA (X.wish E') (e :: es) t) (hst:starEach (e :: es) X.env=(false,eval e X.env) :: starEach es X.env:=by rfl) (hpl:(backTo pos (starEach es X.env)).any (·.1)=false:=by rfl)
  (ht:eval (.Call (.Attribute o m apos) (e :: es) [] pos) X.env=(do
   let ov <-eval o X.env
   standAt apos.atName
   let (f,first) <-holding [ov] (getMethod ov m pl)
   callWith pos f first (backTo pos (starEach (e :: es) X.env)) (backToKw pos (keywordEach [] X.env))):=by rfl)
  (hs:swapsWith (.Call (.Attribute o m apos) (e :: es) [] pos) none ap.line X.env=pure false:=by rfl) :
  Ad9 X [.Expr (.Call (.Attribute o m apos) (e :: es) [] pos) ap] (fun N E σ H=>ta σ H fun x H1=>∃a dx fs,x = .ref a/\H1 a=some (.ins C dx fs)/\fs.lookup m=none/\t σ H1 fun vs H2=>sp (x :: vs) H2 (fun _ H3=>N σ H3) (E σ)):=by
 intro pins s σ H N E I h
 let EE:Value->Shared->Prop:=fun e s'=>∃σ' H1 s1,Inv X pins σ' H1 s1/\CX1 X.prog X.w X.stack H1 s1 (E σ') e s'
 refine wpAny_execs_cons (wpAny_Expr_any (PySem.W.methodCall_KW (pl:=pl) (thn (he EE pins s σ H _ (I.wish _) h) fun u s1 h1=>?_) ht) I.quiet hs)
 obtain ⟨x,H1,I1,rx,a,dx,fs,ex,ea,l,q⟩:=h1
 subst ex
 obtain rfl:u=Value.ref a:=rx
 refine Et I1.unwish ea c hm l ?_
 refine PySem.W.callWith_K (first:=[.ref a]) (h₀:=X.base) I.ok.mod.kin hm.kp (thn (ha EE pos pins s1 σ H1 _ I1 q) fun us s2 h2=>?_) hst hpl
 obtain ⟨vs,H2,I2,r,q2⟩:=h2
 replace I2:=I2.unwish
 refine ⟨I2.kIn,?_⟩
 have r2:Vals (V.ref a :: vs) (Value.ref a :: us):=.cons rfl r
 have hl:(Value.ref a :: us++[]).length=ps.length:=by rw [List.append_nil,<-r2.length]; exact F.len _ _ _ _ q2
 have hb2:=hb s2 (Value.ref a :: us) I2.kIn hl
 rw [List.append_nil] at hb2
 refine wpAny_call (codeAny_mono (F.run X.A X.stack s2 H2 ⟨Value.ref a :: us,[]⟩ (Value.ref a :: us) _ _ _ hr I2.env0 hb2 r2 q2) fun r s' hq=>?_)
 cases r with
 | error e=>exact ⟨σ,H2,s2,I2,hq⟩
 | ok fl=>
  cases fl with
  | ret u=>
   obtain ⟨v,H3,I3,r3,q3⟩:=I2.after hq
   exact wpAny_execs_nil ⟨rfl,σ,H3,I3,q3⟩
  | next=>exact False.elim hq
  | brk=>exact False.elim hq
  | cont=>exact False.elim hq
end
section
variable {H H':Hp} {CD d dn dl np rl:Addr} {nms:List Str} {ks rs:List Rl}
end
inductive Kd
 | row
 | set
 | cut
 | many
deriving DecidableEq
noncomputable def kw:Kd->Str
 | .row=>Str.ofString "row"
 | .set=>Str.ofString "set"
 | .cut=>Str.ofString "cut"
 | .many=>Str.ofString "many"
structure Ex4 (K:Θf) (ck:Kd->Addr) (CTX CZE:Addr):Prop where
 i:∀k,ExcI K (ck k)
 x:∀k,PySem.W.exmOne K (.ref (ck k)) (.ref CZE)=some true
 o:∀k j,PySem.W.kitOne K (.ref (ck k)) (.ref (ck j))=some (decide (k=j))
 t:∀k,PySem.W.kitOne K (.ref (ck k)) (.ref CTX)=some false
 v:∀k,PySem.W.kitOne K (.ref (ck k)) (.type "ValueError")=some true
theorem b01 (b:Bool):-(2 ^ 63)<=(if b=true then (1:Int) else 0)/\(if b=true then (1:Int) else 0) < 2 ^ 63/\1 * (if b=true then (1:Int) else 0).toNat<=sizeLine:=by
 cases b <;> exact ⟨by decide,by decide,by decide⟩
noncomputable def N1 (b:Bool) (w:Str):List V:=if b then [.str w] else []
theorem Mj (b:Bool) (w:Str):(List.replicate (if b=true then (1:Int) else 0).toNat [V.str w]).flatten=N1 b w:=by
 cases b <;> rfl
theorem F8 (b:Bool) (w:Str):(N1 b w).length<=1:=by cases b <;> simp [N1]
theorem Vx (k:Kd):N1 (decide (k = .row)) (Str.ofString "row")++N1 (decide (k = .set)) (Str.ofString "set")++N1 (decide (k = .cut)) (Str.ofString "cut")++N1 (decide (k = .many)) (Str.ofString "many")++N1 false (Str.ofString "text")=[.str (kw k)]:=by
 cases k <;> rfl
noncomputable def Rk (ck:Kd->Addr):Sp:=fun vs H Q _=>∃(ea:Addr) (k:Kd),vs=[.ref ea]/\H ea=some (Je ea (ck k))/\∀(l:Addr) (H':Hp),Same H H'->H' l=some (.lst [.str (kw k)])->Q (.ref l) H'
noncomputable def Aea (nms:List Str) (n:Nat) (k:Kd) (ws:List Str) (ss:List Nat):Prop:=
 (∃w1 w2 w3 x y,ws=[Jk,w1,w2,w3]/\ss=[x,y]/\(y=0->k = .set)/\(y≠0->n=12/\k = .many))\/
 (∃w,ws=[Eo,w]/\(∀i,i < n->w≠O0 i)/\k = .row)\/∃w1 w2 x y,ws=[Dq,w1,w2]/\ss=[x,y]/\x|||y < 2 ^ nms.length - 1/\k = .cut
noncomputable def RefS (nms:List Str) (n:Nat) (k:Kd) (z:Str):Prop:=
 z.length<=290/\(∀c∈z.cps.toList,c < 128)/\(((∀fs∈formsL,P9 (Txt.split z spaceS) fs=false)/\k = .row)\/
 ∃fs∈formsL,P9 (Txt.split z spaceS) fs=true/\(∀gs∈formsL,P9 (Txt.split z spaceS) gs=true->gs=fs)/\(∀w∈Dk fs (Txt.split z spaceS),O6 nms w->k = .set)/\
  ∀ss,All2 (RdS nms) (Dk fs (Txt.split z spaceS)) ss->Aea nms n k (Txt.split z spaceS) ss)
noncomputable def RefV (K:Θf) (H:Hp) (nms:List Str) (n:Nat) (k:Kd) (v:V):Prop:=
 (k = .row/\∃t,TyOf K H v t/\PySem.W.kitOne K t (.type "str")=some false)\/∃z,v = .str z/\RefS nms n k z
theorem RefS.row {nms:List Str} {rs:List Rl} {ck:Kd->Addr} {k:Kd} {z:Str} {H:Hp} {Q:VK} {E:XK} (h:RefS nms rs.length k z) (q:∀H',Same H H'->E (.ref (ck k)) none H'):Ab7 nms rs (ck .row) (ck .set) (ck .cut) (ck .many) z H Q E:=by
 obtain ⟨h1,h2,h⟩:=h
 refine ⟨h1,h2,?_⟩
 rcases h with ⟨no,rfl⟩ | ⟨fs,hm,fit,one,he,ht⟩
 ·exact .inl ⟨no,q⟩
 refine .inr ⟨fs,hm,fit,one,fun w hw hn H' s=>?_,fun ss al=>?_⟩
 ·have:=he w hw hn
  subst this
  exact q H' s
 rcases ht ss al with ⟨w1,w2,w3,x,y,e1,e2,e3,e4⟩ | ⟨w,e1,e2,rfl⟩ | ⟨w1,w2,x,y,e1,e2,e3,rfl⟩
 ·refine .inl ⟨w1,w2,w3,x,y,e1,e2,fun y0 H' s=>?_,fun y0=>⟨(e4 y0).1,fun H' s=>?_⟩⟩
  ·have:=e3 y0
   subst this
   exact q H' s
  ·have:=(e4 y0).2
   subst this
   exact q H' s
 ·exact .inr (.inl ⟨w,e1,e2,q⟩)
 ·exact .inr (.inr (.inr ⟨w1,w2,x,y,e1,e2,e3,q⟩))
noncomputable def Yy (K:Θf) (CD:Addr):Sp:=fun vs H Q _=>∃(d np rl:Addr) (nms:List Str) (rs:List Rl) (v:V) (k:Kd),vs=[.ref d,v,.str (kw k)]/\DeskAt H CD d np rl/\H np=some (.lst (nms.map V.str))/\NM nms/\H rl=some (.lst (rs.map fun r=>V.ref r.r))/\RulesAt H nms.length rs/\rs.length<=12/\
 RefV K H nms rs.length k v/\∀H',Same H H'->Q (.bl true) H'
structure RoomH (k:Nat) (A:Around):Prop where
 dp:A.depth + 3 * k + 5 < recursionLimit
 un:A.units + 16 * k + 200 < cLine
theorem Room.h {k:Nat} {A:Around} (r:Room k A) (e:Option Value):RoomH k (A.mark e):=⟨r.dp,r.un⟩
theorem RoomH.deeper {k:Nat} {A:Around} (r:RoomH (k + 1) A) (env:Env):RoomH k (A.deeper env):=
 ⟨by have:=r.dp; show A.depth + 1 + 3 * k + 5 < _; omega,by have:=r.un; show A.units + 3 + 16 * k + 200 < _; omega⟩
structure FnOkH (P:Program) (w:World) (K:Θf) (mg:Str->Option Value) (base:Heap) (k:Nat) (f:Addr) (fd:FuncData) (ps:List Str) (sp:Sp):Prop where
 len:∀vs H Q E,sp vs H Q E->vs.length=ps.length
 run:∀(A:Around) (outer:List Env) (s:Shared) (H:Hp) (args:Args) (us:List Value) (vs:List V) (Q:VK) (E:XK),RoomH k A->Env0 P w K mg base A outer s H->BindsTo s fd args (ps.zip us)->Vals vs us->sp vs H Q E->
  codeAny (model P w) A (.call (.ref f) args) (CR CX0 outer P w H s Q E) s
noncomputable def cxH (P:Program) (w:World) (K:Θf) (mg:Str->Option Value) (base:Heap) (N:List Str) (qual:Str) (scope:Scope) (f:Addr) (cd:Value) (A:Around) (outer:List Env) (s:Shared) (H:Hp):Cx:=
 { T0 CX0 P w K mg base N qual scope f cd A outer s H (fun _ _ _=>False) with calm:=false,xe:=fun _ _=>False }
section
variable {P:Program} {w:World} {K:Θf} {mg:Str->Option Value} {base:Heap}
theorem Nr {N ps:List Str} {qual:Str} {scope:Scope} {f:Addr} {cd:Value} {A:Around} {outer:List Env} {s s1:Shared} {H:Hp} {us:List Value} {vs:List V}
  (S:FnScope N ps scope) (e0:Env0 P w K mg base A outer s H) (hl:vs.length=ps.length) (r:Vals vs us)
  (x:InCallC s s.heap.objs.size (bindL (envOfC qual scope s.heap.objs.size f cd).kindOf (ps.zip us) fun _=>none) (cellsFrom (s.heap.objs.size + 1) scope.names []) (bindC (envOfC qual scope s.heap.objs.size f cd).kindOf (ps.zip us) fun _=>none) s1) :
  Inv (cxH P w K mg base N qual scope f cd A outer s H) [] (S5 N vs) H s1:=by
 have I:Inv (T0 CX0 P w K mg base N qual scope f cd { A with handled:=none } outer s H (fun _ _ _=>False)) [] (S5 N vs) H s1:=Hj S rfl ⟨e0.frames,e0.mod,e0.bs,e0.bsz,e0.funs,e0.frf,e0.hok,e0.bare⟩ hl r x
 exact ⟨⟨I.ok.mod,I.ok.kind,I.ok.glob,I.ok.blt,I.ok.above,I.ok.inj,I.ok.has,I.ok.cab,(fun z=>by cases z),I.ok.frames,I.ok.stk,I.ok.exf,I.ok.bs,I.ok.bsz,I.ok.noex,I.ok.exfs,I.ok.funs,I.ok.frf⟩,I.os,I.bare,I.base,I.loc,I.cell,I.free,I.freeC,I.pin,I.hok,I.len⟩
theorem Fun.okH {x qual:Str} {st:Stmt} {f:Addr} {fd:FuncData} {N ps:List Str} {k:Nat} {sp:Sp} (F:Fun K x qual st f fd) (S:FnScope N ps (B6 st)) (len:∀vs H Q E,sp vs H Q E->vs.length=ps.length)
  (hbody:∀(cdv:Value) (A:Around) (outer:List Env) (s:Shared) (H:Hp) (vs:List V) (Q:VK) (E:XK),RoomH k (A.deeper (envOfC qual (B6 st) s.heap.objs.size f cdv))->sp vs H Q E->
   ∃t,PSs (cxH P w K mg base N qual (B6 st) f cdv A outer s H) (G0 st) t/\t { nx:=fun _ H'=>Q .non H',rt:=Q } (S5 N vs) H):FnOkH P w K mg base (k + 1) f fd ps sp:=by
 obtain ⟨oc,od,kV,doc,pm,an,cdv,ct,osl,rfl,lk,hcd⟩:=F.ex
 refine ⟨len,fun A outer s H args us vs Q E hr e0 hb r hsp=>?_⟩
 have hl:=len _ _ _ _ hsp
 have KX:K.In s.heap:=e0.mod.kin.keeps fun b o e=>(e0.bs b o e).1
 have lim:s.heap.NoLimit:=e0.mod.nolimit.keeps fun b o e=>(e0.bs b o e).1
 have hkind:∀y∈ps.zip us,(B6 st).names.lookup y.1=some .local\/((B6 st).names.lookup y.1=some .cell/\((cellsFrom (s.heap.objs.size + 1) (B6 st).names []).lookup y.1).isSome=true):=fun ⟨n,v⟩ hy=>by
  rcases S.par n (List.of_mem_zip hy).1 with q | q
  ·exact .inl q
  ·exact .inr ⟨q,PySem.W.cellsFrom_some _ _ _ (.inl q)⟩
 refine codeAny_call_function (by have:=hr.dp; omega) (KX _ _ lk) rfl S.co S.gen rfl (PySem.W.codeRec_of KX hcd) (hb _ _ _ _ ?_)
 refine wpAny_newFunctionEnv_cells S.kind hkind fun env he s1 x=>?_
 subst he
 refine ⟨lim.keeps x.toInCall.keep,codeAny_func ?_⟩
 obtain ⟨t,ht,hq⟩:=hbody cdv A outer s H vs Q E (hr.deeper _) hsp
 have I:=Nr (f:=f) (cd:=cdv) (qual:=qual) S e0 hl r x
 refine wpAny_mono (ht [] s1 (S5 N vs) H _ I hq) (fun fl s' hs=>?_) fun e s' hs=>hs.elim
 cases fl with
 | ret u=>
  obtain ⟨v,σ',H',J,rv,q⟩:=hs
  exact ⟨v,H',J.os,J.bare,J.base,J.hok,rv,q⟩
 | next=>
  obtain ⟨σ',H',J,q⟩:=hs
  exact ⟨V.non,H',J.os,J.bare,J.base,J.hok,rfl,q⟩
 | brk=>
  obtain ⟨_,_,_,q⟩:=hs
  exact False.elim q
 | cont=>
  obtain ⟨_,_,_,q⟩:=hs
  exact False.elim q
end
section
variable {X:Cx} {k:Nat} {f:Addr} {fd:FuncData} {ps:List Str} {sp:Sp} {x:Str} {p pos:Pos} {e:Expr} {es:List Expr} {t:TA}
theorem Xl (F:FnOkH X.prog X.w X.K X.mg X.base k f fd ps sp) (hr:RoomH k X.A) (hg:Gl X x) (hm:X.mg x=some (.ref f)) (hk:PySem.W.keepIn X.K (.ref f)=true) (hb:Binds X.K fd ps [])
  (ha:PA X (e :: es) t) (hdb:(x == ("__debug__":Str))=false:=by decide) (he:starEach (e :: es) X.env=(false,eval e X.env) :: starEach es X.env:=by rfl) (hpl:(backTo pos (starEach es X.env)).any (·.1)=false:=by rfl) :
  PE X (.Call (.Name x p) (e :: es) [] pos) (Ab3 sp [] (fun _ _ _=>False) t):=by
 intro pins s σ H Q I h
 refine wpAny_Call_Name_kw (R9 I hg hm ?_ hdb)
 refine PySem.W.callWith_K (h₀:=X.base) I.ok.mod.kin hk (thn (ha pos pins s σ H _ I h) fun us s1 ⟨vs,H1,I1,r,q⟩=>⟨I1.kIn,?_⟩) he hpl
 have r2:Vals (vs++[]) (us++[]):=r.append .nil
 have hl:(us++[]).length=ps.length:=by rw [<-r2.length]; exact F.len _ _ _ _ q
 refine wpAny_call (codeAny_mono (F.run X.A X.stack s1 H1 ⟨us,[]⟩ (us++[]) (vs++[]) Q _ hr I1.env0 (hb s1 us I1.kIn hl) r2 q) fun r s' hq=>?_)
 cases r with
 | error e=>exact False.elim hq
 | ok fl=>
  cases fl with
  | ret u=>exact I1.after hq
  | next=>exact False.elim hq
  | brk=>exact False.elim hq
  | cont=>exact False.elim hq
end
theorem RefV.say {K:Θf} {H:Hp} {CD d np rl:Addr} {nms:List Str} {rs:List Rl} {k:Kd} {v:V} {ck:Kd->Addr} {Q:VK} {E:XK} (h:RefV K H nms rs.length k v) (hD:DeskAt H CD d np rl) (hn:H np=some (.lst (nms.map V.str))) (NN:NM nms) (hrl:H rl=some (.lst (rs.map fun r=>V.ref r.r))) (hR:RulesAt H nms.length rs) (l12:rs.length<=12)
  (q:∀H',Same H H'->E (.ref (ck k)) none H'):Cr K CD (ck .row) (ck .set) (ck .cut) (ck .many) [.ref d,v] H Q E:=by
 refine ⟨d,np,rl,nms,rs,v,rfl,hD,hn,NN,hrl,hR,l12,?_⟩
 rcases h with ⟨rfl,t,ht,hk⟩ | ⟨z,rfl,hz⟩
 ·exact .inl ⟨t,ht,hk,q _ (Same.refl _)⟩
 ·exact .inr ⟨z,rfl,hz.row q⟩
theorem TyOf.keep {K:Θf} {H H':Hp} {v:V} {t:Value} (h:TyOf K H v t) (s:Same H H'):TyOf K H' v t:=by
 cases h with
 | non=>exact .non
 | bl b=>exact .bl b
 | int i=>exact .int i
 | str x=>exact .str x
 | flt x=>exact .flt x
 | lst e=>exact .lst (s _ _ e)
 | frz e=>exact .frz (s _ _ e)
 | tup e=>exact .tup (s _ _ e)
 | dK e=>exact .dK (s _ _ e)
 | dT e=>exact .dT (s _ _ e)
 | ins e a b c d f=>exact .ins (s _ _ e) a b c d f
theorem RefV.keep {K:Θf} {H H':Hp} {nms:List Str} {n:Nat} {k:Kd} {v:V} (h:RefV K H nms n k v) (s:Same H H'):RefV K H' nms n k v:=by
 rcases h with ⟨e,t,ht,hk⟩ | h
 ·exact .inl ⟨e,t,ht.keep s,hk⟩
 ·exact .inr h
theorem Z5:∀{ps:List Str},ps≠[]->∀w,Str.join spaceS (ps++[w])=Str.join spaceS ps++spaceS++w
 | [],h,_=>absurd rfl h
 | [p],_,w=>rfl
 | p :: q :: r,_,w=>by
  have h:=Z5 (ps:=q :: r) (List.cons_ne_nil _ _) w
  have e1:Str.join spaceS (p :: q :: r++[w])=p++spaceS++Str.join spaceS (q :: r++[w]):=rfl
  have e2:Str.join spaceS (p :: q :: r)=p++spaceS++Str.join spaceS (q :: r):=rfl
  rw [e1,e2,h]
  apply congrArg Str.mk
  show (p.cps++spaceS.cps)++((Str.join spaceS (q :: r)).cps++spaceS.cps++w.cps)=(p.cps++spaceS.cps)++(Str.join spaceS (q :: r)).cps++spaceS.cps++w.cps
  simp only [Array.append_assoc]
noncomputable def Nf (t:Str):Prop:=∀ws,Txt.split t spaceS=columnsS :: ws->K4 ws=false
theorem Y1 {w:Str} {ws:List Str} (hf:∀x∈w :: ws,32∉x.cps.toList) (h:w=columnsS->K4 ws=false):Nf (Str.join spaceS (w :: ws)):=fun ws' e=>by
 have:Txt.split (Str.join spaceS (w :: ws)) spaceS=w :: ws:=I8 (c:=32) (by decide) (List.cons_ne_nil _ _) hf
 rw [this] at e
 injection e with e1 e2
 rw [<-e2]
 exact h e1
theorem Qc {ws:List Str} {w:Str} (h:w∈ws) (b:S1 w=false):K4 ws=false:=by
 unfold K4
 have:ws.all S1=false:=by
  rw [List.all_eq_false]
  exact ⟨w,h,by rw [b]; exact Zf_⟩
 rw [this,Bool.and_false]
theorem Bv (a b c:Str):a++b++c=a++(b++c):=by
 apply congrArg Str.mk
 exact Array.append_assoc
section
variable {nms:List Str}
theorem Bk (N:NM nms):∀x∈nms,32∉x.cps.toList:=Es fun w hw=>N.low w hw
theorem fs {p:Str->Prop} {a:Str} {l:List Str} (h2:∀x∈l,p x) (h:p a):∀x∈l++[a],p x:=fun x hx=>by
 rcases Θa hx with hx | hx
 ·exact h2 x hx
 ·rw [Θs hx]; exact h
structure Pq (n:Nat) (t:Str):Prop where
 len:t.length<=n
 ok:∀c∈t.cps.toList,c < 128/\c≠10
theorem Pq.app {a b:Str} {n m:Nat} (h:Pq n a) (h':Pq m b):Pq (n + m) (a++b):=by
 refine ⟨?_,fun c hc=>?_⟩
 ·have:=h.len
  have:=h'.len
  rw [Str.length_append]
  omega
 ·rw [Str.cps_append,Array.toList_append] at hc
  rcases Θa hc with hc | hc
  ·exact h.ok c hc
  ·exact h'.ok c hc
theorem Pq.mono {a:Str} {n m:Nat} (h:Pq n a) (l:n<=m:=by decide):Pq m a:=⟨Zo_ h.len l,h.ok⟩
theorem We {w:Str} (h:Ku w) (l:w.length<=8):Pq 8 w:=⟨l,fun c hc=>by have:=h c hc; omega⟩
end
noncomputable def Iv (nms:List Str) (t:Str):Prop:=∀r,InR nms r->r.2.2≠0->Txt.split t spaceS≠G6 nms r
noncomputable def V7 (nms ws:List Str):Prop:=∀r,InR nms r->r.2.2≠0->ws≠G6 nms r
theorem Y2 {nms ws:List Str} (h0:ws≠[]) (hf:∀x∈ws,32∉x.cps.toList) (h:V7 nms ws):Iv nms (Str.join spaceS ws):=by
 intro r hI hy
 have:Txt.split (Str.join spaceS ws) spaceS=ws:=I8 (c:=32) (by decide) h0 hf
 rw [this]
 exact h r hI hy
section
variable {nms:List Str}
theorem Rv {ws:List Str} (h:∀v∈ws,P4 v=false):V7 nms ws:=fun r hI _ e=>by
 have:=h (D6 r.1) (by rw [e]; unfold G6; exact List.mem_append_right _ (Θc ..))
 rw [S4] at this
 cases this
theorem Gg (N:NM nms) {ws:List Str} {w:Str} (hw:w∈ws) (h1:w∉nms) (h2:P4 w=false):V7 nms ws:=fun r hI _ e=>by
 rw [e] at hw
 unfold G6 at hw
 rcases Θa hw with hw | hw
 ·exact h1 (N2 N hI.1 hw)
 ·rcases Zg_.mp hw with rfl | hw
  ·rw [S4] at h2
   cases h2
  ·exact h1 (N2 N hI.2 hw)
theorem Zh (N:NM nms) (W:NW nms) {A B:List Str} {b:Bool} (hA:∀v∈A,P4 v=false) (h:∀y,y < 2 ^ nms.length->y≠0->B≠E6 nms y):V7 nms (A++D6 b :: B):=fun r hI hy e=>
 h r.2.2 hI.2 hy (Fe hA (fun v hv=>W v (N2 N hI.1 hv)) (S4 _) (S4 _) e).2.2
theorem Aah {y:Nat} (N:NM nms) (hy:y < 2 ^ nms.length) (h:y≠0):E6 nms y≠[]:=Abw (P7 N hy) h
theorem Ad4 (N:NM nms) (W:NW nms) {A:List Str} {b:Bool} (hA:∀v∈A,P4 v=false):V7 nms (A++[D6 b]):=
 Zh N W hA fun y hy h0 e=>Aah N hy h0 e.symm
theorem P2 (N:NM nms):noS∉nms/\P4 noS=false:=⟨Ma N,by decide⟩
theorem Ph (N:NM nms) {w:Str} {c:Nat} (h:c∈w.cps.toList) (hc:c < 97\/122 < c):w∉nms/\P4 w=false:=by
 refine ⟨fun hm=>?_,?_⟩
 ·have:=N.low w hm c h
  omega
 ·cases e:P4 w with
  | false=>rfl
  | true=>
   obtain ⟨b,rfl⟩:=Hk e
   have:=(Lu b).1 c h
   omega
end
section
variable {X:Cx} {p0:List (Addr × Obj)} {ET:St->XK} {k:Nat} {f C:Addr} {fd:FuncData} {ps:List Str} {sp:Sp} {x:Str} {p pos:Pos} {e:Expr} {es:List Expr} {t:TA}
theorem Xo (M:Mk X.K C f) (F:FnOk X.prog X.w X.K X.mg X.base (CX2 X.prog X.w) k f fd ps sp) (hr:Room (k + 1) X.A) (hg:Gl (X.tried2 p0 ET) x) (hm:X.mg x=some (.ref C)) (hb:Binds X.K fd ps [])
  (ha:PA (X.tried2 p0 ET) (e :: es) t) (hdb:(x == ("__debug__":Str))=false:=by decide) (he:starEach (e :: es) X.env=(false,eval e X.env) :: starEach es X.env:=by rfl) (hpl:(backTo pos (starEach es X.env)).any (·.1)=false:=by rfl) :
  PE (X.tried2 p0 ET) (.Call (.Name x p) (e :: es) [] pos) (fun σ H Q=>t σ H fun vs H1=>∀y dx,H1 y=none->H1 dx=none->dx≠y->sp (.ref y :: vs) (upd (upd H1 dx (.own y)) y (.ins C dx [])) (fun v H2=>v = .non/\Q (.ref y) H2) (ET σ)):=by
 intro pins s σ H Q I h
 refine wpAny_Call_Name_kw (R9 I hg hm ?_ hdb)
 refine PySem.W.callWith_K (h₀:=X.base) I.ok.mod.kin M.kp (thn (ha pos pins s σ H _ I h) fun us s1 ⟨vs,H1,I1,r,q⟩=>⟨I1.kIn,?_⟩) he hpl
 have hq:=q (s1.heap.objs.size + 1) s1.heap.objs.size (I1.hok.fresh (Nat.le_succ _)) (I1.hok.fresh (Zd_ _)) (Zs_ (Nat.lt_succ_self _))
 have I2:=Inv.made (C:=C) I1
 have r2:Vals (V.ref (s1.heap.objs.size + 1) :: vs) (Value.ref (s1.heap.objs.size + 1) :: us):=.cons rfl r
 have hl:(Value.ref (s1.heap.objs.size + 1) :: us++[]).length=ps.length:=by
  have e1:=r2.length
  rw [F.len _ _ _ _ hq] at e1
  rw [List.append_nil]
  exact e1.symm
 have hb2:=hb _ (Value.ref (s1.heap.objs.size + 1) :: us) I2.kIn hl
 rw [List.append_nil] at hb2
 refine wpAny_call (Lv (f:=f) I1.kIn M.makes M.init (beq_iff_eq.mp M.fn) (codeAny_mono (F.run _ X.stack _ _ ⟨Value.ref (s1.heap.objs.size + 1) :: us,[]⟩ (Value.ref (s1.heap.objs.size + 1) :: us) _ _ (ET σ) (hr.make C us [])
  (I2.env0.make C us []) hb2 r2 hq) fun r s' hq'=>?_))
 cases r with
 | error e=>exact ⟨σ,_,_,I2.outT2,hq'⟩
 | ok fl=>
  cases fl with
  | ret u=>
   obtain ⟨v,H',I3,rv,ev,q3⟩:=I2.after hq'
   subst ev
   exact ⟨rv,⟨V.ref (s1.heap.objs.size + 1),H',I3,rfl,q3⟩⟩
  | next=>exact False.elim hq'
  | brk=>exact False.elim hq'
  | cont=>exact False.elim hq'
end
noncomputable def Fc (n l:Str):List Str:=[noS,D6 true,Str.ofString "deals "++n,columnsS,l++Str.ofString " ",l++Str.ofString " A"]
section
variable {nms:List Str}
theorem Wp (N:NM nms) (W:NW nms):∀o∈Fc (nms.getD 0 noS) (K1 nms),Nf o:=by
 have n0:nms.getD 0 noS∈nms:=(G1 (show 0 < nms.length from N.l1)).1
 have f0:32∉(nms.getD 0 noS).cps.toList:=Bk N _ n0
 have hh:∀x∈columnsS :: nms,32∉x.cps.toList:=Es fun w hw=>(T4 N w hw).1
 have e2:∀w,Str.join spaceS (columnsS :: (nms++[w]))=K1 nms++spaceS++w:=fun w=>Z5 (ps:=columnsS :: nms) (List.cons_ne_nil _ _) w
 intro o ho
 unfold Fc at ho
 simp only [List.mem_cons,List.not_mem_nil,or_false] at ho
 rcases ho with rfl | rfl | rfl | rfl | rfl | rfl
 ·exact Y1 (w:=noS) (ws:=[]) (by decide) (fun e=>absurd e (by decide))
 ·exact Y1 (w:=D6 true) (ws:=[]) (by decide) (fun e=>absurd e (by decide))
 ·have:=Y1 (w:=Str.ofString "deals") (ws:=[nms.getD 0 noS]) (fun x hx=>by
   rcases Zg_.mp hx with rfl | hx
   ·decide
   ·rw [Θs hx]; exact f0) (fun e=>absurd e (by decide))
  exact this
 ·exact Y1 (w:=columnsS) (ws:=[]) (by decide) (fun _=>rfl)
 ·have:=Y1 (w:=columnsS) (ws:=nms++[noS]) (fun x hx=>by
   rcases Zg_.mp hx with rfl | hx
   ·decide
   ·rcases Θa hx with hx | hx
    ·exact Bk N _ hx
    ·rw [Θs hx]; decide) (fun _=>Qc (w:=noS) (Zh_ _ Θc) (by decide))
  rw [e2] at this
  exact this
 ·have:=Y1 (w:=columnsS) (ws:=nms++[Str.ofString "A"]) (fun x hx=>by
   rcases Zg_.mp hx with rfl | hx
   ·decide
   ·rcases Θa hx with hx | hx
    ·exact Bk N _ hx
    ·rw [Θs hx]; decide) (fun _=>Qc (w:=Str.ofString "A") (Zh_ _ Θc) (by decide))
  rw [e2,Bv] at this
  exact this
theorem Wq (N:NM nms) (W:NW nms) {r:RD} (hI:InR nms r):∀o∈Fc (nms.getD 0 noS) (E7 nms r),Iv nms o:=by
 have n0:nms.getD 0 noS∈nms:=(G1 (show 0 < nms.length from N.l1)).1
 have f0:32∉(nms.getD 0 noS).cps.toList:=Bk N _ n0
 have h0:G6 nms r≠[]:=fun z=>by have:=congrArg List.length z; unfold G6 at this; rw [List.length_append,List.length_cons,List.length_nil] at this; omega
 have hh:∀x∈G6 nms r,32∉x.cps.toList:=Es fun w hw=>(U1 N hI w hw).1
 have e2:∀w,Str.join spaceS (G6 nms r++[w])=E7 nms r++spaceS++w:=fun w=>Z5 h0 w
 have fin:∀w:Str,32∉w.cps.toList->w∉nms/\P4 w=false->Iv nms (E7 nms r++spaceS++w):=fun w hw ha=>by
  rw [<-e2]
  exact Y2 (by simp) (fs (p:=fun x=>32∉x.cps.toList) hh hw) (Gg N (List.mem_append_right _ Θc) ha.1 ha.2)
 intro o ho
 unfold Fc at ho
 simp only [List.mem_cons,List.not_mem_nil,or_false] at ho
 rcases ho with rfl | rfl | rfl | rfl | rfl | rfl
 ·exact Y2 (ws:=[noS]) (by simp) (by decide) (Gg N Θc (P2 N).1 (P2 N).2)
 ·exact Y2 (ws:=[D6 true]) (by simp) (by decide) (Ad4 N W (A:=[]) (b:=true) (fun v hv=>absurd hv List.not_mem_nil))
 ·have:=Y2 (nms:=nms) (ws:=[Str.ofString "deals",nms.getD 0 noS]) (by simp) (fun x hx=>by
   rcases Zg_.mp hx with rfl | hx
   ·decide
   ·rw [Θs hx]; exact f0) (Rv fun v hv=>by
   rcases Zg_.mp hv with rfl | hv
   ·decide
   ·rw [Θs hv]; exact W _ n0)
  exact this
 ·exact Y2 (ws:=[columnsS]) (by simp) (by decide) (Rv fun v hv=>by rw [Θs hv]; decide)
 ·exact fin noS (by decide) (P2 N)
 ·have:=fin (Str.ofString "A") (by decide) (Ph N (c:=65) (by decide) (.inl (by decide)))
  rw [Bv] at this
  exact this
theorem Oc {n l:Str} (hn:Pq 8 n) (hl:Pq 150 l):∀o∈Fc n l,Pq 200 o:=by
 intro o ho
 unfold Fc at ho
 simp only [List.mem_cons,List.not_mem_nil,or_false] at ho
 rcases ho with rfl | rfl | rfl | rfl | rfl | rfl
 ·exact ⟨by decide,by decide⟩
 ·exact ⟨by decide,by decide⟩
 ·exact (Pq.app (n:=6) ⟨by decide,by decide⟩ hn).mono
 ·exact ⟨by decide,by decide⟩
 ·exact (Pq.app (m:=1) hl ⟨by decide,by decide⟩).mono
 ·exact (Pq.app (m:=2) hl ⟨by decide,by decide⟩).mono
theorem W3 {l:Str} (h:(∀c∈l.cps.toList,okT c)/\l.length<=150):Pq 150 l:=⟨h.2,fun c hc=>by rcases h.1 c hc with z | z <;> omega⟩
theorem X1 {ls:List Str} (h0:ls≠[]) (h:∀l∈ls,Pq 200 l):Txt.split (Str.join nlS ls) nlS=ls:=
 I8 (c:=10) (by decide) h0 fun w hw z=>(h w hw).ok 10 z |>.2 rfl
theorem Z8 {ls:List Str} (h:∀l∈ls,Pq 200 l) (n:ls.length<=14):(Str.join nlS ls).length<=3000:=by
 have h2:=X9 (sep:=nlS) (fun w hw=>(h w hw).len) rfl
 omega
theorem Ty {K:Θf} {CN:Addr} {H:Hp} {Q:VK} {E:XK} {l0:Str} {ls:List Str} (hp:∀l∈l0 :: ls,Pq 200 l) (n:ls.length<=13) (h:Nf l0) (q:∀D H',Same H H'->H' D=some (O5 0)->E (.ref CN) (some D) H'):Q7 K CN [.str (Str.join nlS (l0 :: ls))] H Q E:=
 ⟨_,rfl,.inr ⟨_,l0,ls,rfl,Z8 hp (by rw [ZA]; omega),X1 (List.cons_ne_nil _ _) hp,n,fun l hl=>⟨Zo_ (hp l hl).len (by decide),fun c hc=>((hp l hl).ok c hc).1⟩,.inl ⟨h,q⟩⟩⟩
theorem U3 (N:NM nms):∀{rs:List RD},(∀r∈rs,InR nms r/\r.2.2≠0)->All2 (Ur nms) (rs.map (E7 nms)) (rs.map some)
 | [],_=>.nil
 | r :: rs,h=>.cons ⟨(h r Θc).1,(h r Θc).2,Pm N (h r Θc).1⟩ (U3 N fun r' hr=>h r' (Θd _ hr))
theorem All2.app {α β:Type} {R:α->β->Prop} {as as':List α} {bs bs':List β} (h:All2 R as bs) (h':All2 R as' bs'):All2 R (as++as') (bs++bs'):=by
 induction h with
 | nil=>exact h'
 | cons r _ ih=>exact .cons r ih
theorem Hx {K:Θf} {CN:Addr} {H:Hp} {Q:VK} {E:XK} (N:NM nms) (W:NW nms) {A B:List RD} {o:Str} (hA:∀r∈A++B,InR nms r/\r.2.2≠0) (n:A.length + B.length<=12) (ho:Iv nms o) (po:Pq 200 o)
  (q:∀D H',Same H H'->H' D=some (O5 ((A.length + 1:Nat):Int))->E (.ref CN) (some D) H'):Q7 K CN [.str (Str.join nlS (K1 nms :: (A.map (E7 nms)++o :: B.map (E7 nms))))] H Q E:=by
 have hp:∀l∈K1 nms :: (A.map (E7 nms)++o :: B.map (E7 nms)),Pq 200 l:=fun l hl=>by
  rcases Zg_.mp hl with rfl | hl
  ·exact (W3 (Jh N)).mono
  rcases Θa hl with hl | hl
  ·obtain ⟨r,hr,rfl⟩:=Θn hl
   exact (W3 (Ba N (hA r (Zt_ _ hr)).1)).mono
  rcases Zg_.mp hl with rfl | hl
  ·exact po
  ·obtain ⟨r,hr,rfl⟩:=Θn hl
   exact (W3 (Ba N (hA r (Zh_ _ hr)).1)).mono
 have ln:(A.map (E7 nms)++o :: B.map (E7 nms)).length<=13:=by rw [Zv_,ZA,Θl,Θl]; omega
 refine ⟨_,rfl,.inr ⟨_,_,_,rfl,Z8 hp (by rw [ZA]; omega),X1 (List.cons_ne_nil _ _) hp,ln,fun l hl=>⟨Zo_ (hp l hl).len (by decide),fun c hc=>((hp l hl).ok c hc).1⟩,.inr ⟨nms,A.map some++none :: B.map some,Gc N,Lz N W,N,W,?_,.inl ⟨A.length,?_,fun j hj e=>?_,by omega,q⟩⟩⟩⟩
 ·exact (U3 N fun r hr=>hA r (Zt_ _ hr)).app (.cons ho (U3 N fun r hr=>hA r (Zh_ _ hr)))
 ·rw [ZD (by rw [Θl]; exact Zd_ _),Θl,Nat.sub_self]; rfl
 ·rw [List.getElem?_append_left (by rw [Θl]; exact hj),Θg] at e
  cases e5:A[j]? with
  | none=>rw [e5] at e; cases e
  | some _=>rw [e5] at e; cases e
theorem Tx {K:Θf} {CN:Addr} {H:Hp} {Q:VK} {E:XK} (N:NM nms) (W:NW nms) {rs:List RD} (hA:∀r∈rs,InR nms r/\r.2.2≠0) (n:rs.length<=12)
  (q:∀(t nl rl:Addr) (ks:List Rl) (H':Hp),Same H H'->H nl=none->H rl=none->nl≠rl->ks.map Rl.d=rs->RulesAt H' nms.length ks->H' t=some (.tup [.ref nl,.ref rl])->H' nl=some (.lst (nms.map V.str))->H' rl=some (.lst (ks.map fun r=>V.ref r.r))->(∀r∈ks,r.r≠nl/\r.r≠rl)->Q (.ref t) H'):Q7 K CN [.str (O4 nms rs)] H Q E:=by
 have hp:∀l∈F4 nms rs,Pq 200 l:=fun l hl=>(W3 (O1 N (fun r hr=>(hA r hr).1) l hl)).mono
 have ln:(rs.map (E7 nms)).length<=13:=by rw [Θl]; omega
 exact ⟨_,rfl,.inr ⟨_,_,_,rfl,Z8 hp (by rw [M0]; omega),X1 (List.cons_ne_nil _ _) hp,ln,fun l hl=>⟨Zo_ (hp l hl).len (by decide),fun c hc=>((hp l hl).ok c hc).1⟩,.inr ⟨nms,rs.map some,Gc N,Lz N W,N,W,U3 N hA,.inr ⟨rs,rfl,n,q⟩⟩⟩⟩
end
theorem Xn {X:Cx} {K:Θf} {e:Expr} {ta:TE} {pos:Pos} (hK:X.K=K) (he:PE X e ta) (hb:attributeBase e "line" X.env (eval e X.env)=eval e X.env:=by rfl):PE X (.Attribute e "line" pos) (Ab5 K ta):=by
 subst hK
 exact Aa3 he hb
section
variable {nms:List Str} {ds:List RD}
theorem Qm:∀{ps:List Str},ps≠[]->Str.join nlS (ps++[noS])=Str.join nlS ps++nlS
 | [],h=>absurd rfl h
 | [p],_=>by
  show p++nlS++noS=p++nlS
  exact Str.append_empty _
 | p :: q :: r,_=>by
  have ih:=Qm (ps:=q :: r) (List.cons_ne_nil _ _)
  show p++nlS++Str.join nlS ((q :: r)++[noS])=p++nlS++Str.join nlS (q :: r)++nlS
  rw [ih,Bv (p++nlS)]
theorem Na {K:Θf} {CN:Addr} {H:Hp} (N:NM nms) (W:NW nms) (hd:∀r∈ds,InR nms r/\r.2.2≠0) (l12:ds.length<=12) {A B:List Str} {l o:Str} {lt:Addr} (el:F4 nms ds=A++l :: B) (ho:o∈Fc (nms.getD 0 noS) l) (hlt:H lt=some (.lst [.str (O4 nms ds)])) {j:Nat} (hj:j < 4) :
  ∃(th:V) (n:Nat),[V.str (Str.join nlS (A++[o]++B)),V.non,V.str (O4 nms ds++nlS),V.ref lt][j]? = some th/\[vN A.length,V.int 0,vN (F4 nms ds).length,V.int 0][j]? = some (vN n)/\n<=13/\
   ∀H' Q E,Same H H'->(∀D H'',Same H' H''->H'' D=some (O5 (n:Int))->E (.ref CN) (some D) H'')->Q7 K CN [th] H' Q E:=by
 match j,hj with
 | 1,_=>exact ⟨_,0,rfl,rfl,by decide,fun H' Q E s q=>⟨_,rfl,.inl ⟨_,.non,rfl,q⟩⟩⟩
 | 3,_=>exact ⟨_,0,rfl,rfl,by decide,fun H' Q E s q=>⟨_,rfl,.inl ⟨_,.lst (s _ _ hlt),rfl,q⟩⟩⟩
 | 2,_=>
  refine ⟨_,ds.length + 1,rfl,by rw [M0]; rfl,by omega,fun H' Q E s q=>?_⟩
  have h:=Hx (K:=K) (CN:=CN) (H:=H') (Q:=Q) (E:=E) N W (A:=ds) (B:=[]) (o:=noS) (by simpa using hd) (by simpa using l12) (Y2 (ws:=[noS]) (by simp) (by decide) (Gg N Θc (P2 N).1 (P2 N).2)) ⟨by decide,by decide⟩ q
  have e:Str.join nlS (K1 nms :: (ds.map (E7 nms)++noS :: ([]:List RD).map (E7 nms)))=O4 nms ds++nlS:=Qm (ps:=F4 nms ds) (List.cons_ne_nil _ _)
  rw [e] at h
  exact h
 | 0,_=>
  have n0:nms.getD 0 noS∈nms:=(G1 (show 0 < nms.length from N.l1)).1
  have pn:Pq 8 (nms.getD 0 noS):=We (N.low _ n0) (N.len _ n0)
  cases A with
  | nil=>
   obtain ⟨rfl,rfl⟩:K1 nms=l/\ds.map (E7 nms)=B:=by
    unfold F4 at el
    injection el with e1 e2
    exact ⟨e1,e2⟩
   have po:=Oc pn (W3 (Jh N)) o ho
   refine ⟨_,0,rfl,rfl,by decide,fun H' Q E s q=>Ty (fun x hx=>?_) (by show (ds.map (E7 nms)).length<=13; rw [Θl]; omega) (Wp N W o ho) q⟩
   rcases Zg_.mp hx with rfl | hx
   ·exact po
   ·obtain ⟨r,hr,rfl⟩:=Θn hx
    exact (W3 (Ba N (hd r hr).1)).mono
  | cons a A=>
   obtain ⟨rfl,e2⟩:K1 nms=a/\ds.map (E7 nms)=A++l :: B:=by
    unfold F4 at el
    injection el with e1 e2
    exact ⟨e1,e2⟩
   obtain ⟨dA,dR,rfl,rfl,e4⟩:=List.map_eq_append_iff.mp e2
   obtain ⟨r,dB,rfl,rfl,rfl⟩:=List.map_eq_cons_iff.mp e4
   have hr:=hd r (Zh_ _ Θc)
   have po:=Oc pn (W3 (Ba N hr.1)) o ho
   have nl:dA.length + (dB.length + 1)<=12:=by rw [Zv_,ZA] at l12; exact l12
   refine ⟨_,dA.length + 1,rfl,by rw [ZA,Θl]; rfl,by omega,fun H' Q E s q=>?_⟩
   have h:=Hx (K:=K) (CN:=CN) (H:=H') (Q:=Q) (E:=E) N W (A:=dA) (B:=dB) (o:=o) (fun r' hr'=>?_) (by omega) (Wq N W hr.1 o ho) po q
   ·have e:K1 nms :: (dA.map (E7 nms)++o :: dB.map (E7 nms))=K1 nms :: dA.map (E7 nms)++[o]++dB.map (E7 nms):=by simp
    rw [e] at h
    exact h
   ·rcases Θa hr' with z | z
    ·exact hd r' (Zt_ _ z)
    ·exact hd r' (Zh_ _ (Θd _ z))
end
noncomputable def Mu (K:Θf):Sp:=fun vs H Q _=>∃(np:Addr) (nms:List Str) (ds:List RD) (c:Nat),vs=[.ref np,.str (O4 nms ds),vN c]/\NAt K H np nms/\NM nms/\NW nms/\(∀r∈ds,InR nms r/\r.2.2≠0)/\ds.length<=12/\∀H',Same H H'->Q (.bl true) H'
noncomputable def Wd (w:Str):Prop:=w.length<=50/\∀c∈w.cps.toList,c < 128/\c≠32
instance {w:Str}:Decidable (Wd w):=by unfold Wd; infer_instance
theorem Lj {ws fs:List Str} (h:P9 ws fs=true) {i:Nat} {f:Str} (e:fs[i]? = some f) (h1:f≠F0) (h2:f≠Aa):ws[i]? = some f:=by
 unfold P9 at h
 rw [Bool.and_eq_true] at h
 have le:ws.length=fs.length:=Zj_ h.1
 have hi:=(Ze_.mp e).1
 have ew:ws[i]? = some ws[i]:=Θh (by omega)
 have hz:(f,ws[i])∈fs.zip ws:=Θe (List.getElem?_zip_eq_some.mpr ⟨e,ew⟩)
 have:=List.all_eq_true.mp h.2 _ hz
 unfold Ds at this
 rw [decide_eq_false h1,decide_eq_false h2] at this
 have e2:f=ws[i]:=Zj_ this
 rw [ew,<-e2]
theorem Lk:∀fs∈formsL,∀gs∈formsL,fs=gs\/fs.length≠gs.length\/∃i,i < 4/\∃f,fs[i]? = some f/\f≠F0/\f≠Aa/\∃g,gs[i]? = some g/\g≠F0/\g≠Aa/\f≠g:=by
 have h:∀fs∈formsL,∀gs∈formsL,fs=gs\/fs.length≠gs.length\/∃i,i < 4/\(match fs[i]?,gs[i]? with | some f,some g=>decide (f≠F0/\f≠Aa/\g≠F0/\g≠Aa/\f≠g) | _,_=>false)=true:=by decide +kernel
 intro fs hf gs hg
 rcases h fs hf gs hg with h | h | ⟨i,hi,h⟩
 ·exact .inl h
 ·exact .inr (.inl h)
 ·refine .inr (.inr ⟨i,hi,?_⟩)
  cases e1:fs[i]? with
  | none=>rw [e1] at h; cases h
  | some f=>
   cases e2:gs[i]? with
   | none=>rw [e1,e2] at h; cases h
   | some g=>
    rw [e1,e2] at h
    obtain ⟨a1,a2,a3,a4,a5⟩:=Zj_ h
    exact ⟨f,rfl,a1,a2,g,rfl,a3,a4,a5⟩
theorem Mh {ws fs gs:List Str} (hf:fs∈formsL) (hg:gs∈formsL) (h1:P9 ws fs=true) (h2:P9 ws gs=true):gs=fs:=by
 rcases Lk fs hf gs hg with h | h | ⟨i,_,f,e1,a1,a2,g,e2,a3,a4,a5⟩
 ·exact h.symm
 ·unfold P9 at h1 h2
  rw [Bool.and_eq_true] at h1 h2
  exact absurd ((Zj_ h1.1).symm.trans (Zj_ h2.1)) h
 ·have z:=(Lj h1 e1 a1 a2).symm.trans (Lj h2 e2 a3 a4)
  exact absurd (Θo z) a5
section
variable {nms:List Str} {n:Nat} {k:Kd} {ws fs:List Str}
theorem Nd (h0:ws≠[]) (l4:ws.length<=5) (hw:∀w∈ws,Wd w):(Str.join spaceS ws).length<=290/\(∀c∈(Str.join spaceS ws).cps.toList,c < 128)/\Txt.split (Str.join spaceS ws) spaceS=ws:=by
 refine ⟨?_,O7 (sc:=32) (p:=fun c=>c < 128) (by decide) (fun w h c hc=>((hw w h).2 c hc).1),I8 (c:=32) (by decide) h0 fun w h z=>((hw w h).2 32 z).2 rfl⟩
 have h2:=X9 (sep:=spaceS) (fun w h=>(hw w h).1) rfl
 omega
theorem Xx (h0:ws≠[]) (l4:ws.length<=5) (hw:∀w∈ws,Wd w) (h:∀fs∈formsL,P9 ws fs=false):RefS nms n .row (Str.join spaceS ws):=by
 obtain ⟨h1,h2,e⟩:=Nd h0 l4 hw
 refine ⟨h1,h2,.inl ⟨?_,rfl⟩⟩
 rw [e]
 exact h
theorem U0 (h0:ws≠[]) (l4:ws.length<=5) (hw:∀w∈ws,Wd w) (hf:fs∈formsL) (fit:P9 ws fs=true) (he:∀w∈Dk fs ws,O6 nms w->k = .set) (ht:∀ss,All2 (RdS nms) (Dk fs ws) ss->Aea nms n k ws ss):RefS nms n k (Str.join spaceS ws):=by
 obtain ⟨h1,h2,e⟩:=Nd h0 l4 hw
 refine ⟨h1,h2,.inr ⟨fs,hf,?_⟩⟩
 rw [e]
 exact ⟨fit,fun gs hg h=>Mh hf hg fit h,he,ht⟩
theorem Pz {w:Str}:∀{as:List Str} {ss:List Nat},All2 (RdS nms) as ss->w∈as->O6 nms w->False
 | _,_,.cons r h,hw,no=>by
  rcases Zg_.mp hw with rfl | hw
  ·exact r.ok no
  ·exact Pz h hw no
theorem V8 {a b:Str} {ss:List Nat} (h:All2 (RdS nms) [a,b] ss):∃x y,ss=[x,y]/\RdS nms a x/\RdS nms b y:=by
 match ss,h with
 | [x,y],.cons r1 (.cons r2 .nil)=>exact ⟨x,y,rfl,r1,r2⟩
theorem O3 (h0:ws≠[]) (l4:ws.length<=5) (hw:∀w∈ws,Wd w) (hf:fs∈formsL) (fit:P9 ws fs=true) {b:Str} (hb:b∈Dk fs ws) (no:O6 nms b):RefS nms n .set (Str.join spaceS ws):=
 U0 h0 l4 hw hf fit (fun _ _ _=>rfl) fun ss al=>(Pz al hb no).elim
theorem R5 {w:Str} (hw:Wd w) (no:∀i,i < n->w≠O0 i):RefS nms n .row (Str.ofString "drop "++w):=
 U0 (ws:=[Eo,w]) (fs:=[Eo,Aa]) (List.cons_ne_nil _ _) (by show 2<=5; decide) (fun x hx=>by
  rcases Zg_.mp hx with rfl | hx
  ·decide
  ·rw [Θs hx]; exact hw) (by decide) rfl (fun x hx=>absurd hx Zi_) fun ss al=>.inr (.inl ⟨w,rfl,no,rfl⟩)
theorem Gx {z:Nat} (h:RdS nms dashS z):z=0:=by
 rcases h with ⟨_,e⟩ | ⟨ne,_⟩
 ·exact e
 ·exact absurd rfl ne
theorem Wl {z:Nat} {w:Str} (N:NM nms) (hw:w∈nms) (h:RdS nms w z):z≠0:=fun e=>by
 subst e
 rcases h with ⟨e,_⟩ | ⟨_,_,e⟩
 ·have:=N.low w hw 45 (by rw [e]; decide)
  omega
 ·have h2:Txt.split w commaS≠[]:=Gd
  exact h2 e
theorem RdS.same {z s:Nat} (N:NM nms) (hs:s < 2 ^ nms.length) (h:RdS nms (E2 nms s) z):z=s:=by
 rcases h with ⟨e,rfl⟩ | ⟨ne,hz,e⟩
 ·exact (Uf N hs e).symm
 ·exact Ue N hs hz ne e
theorem Jn (N:NM nms) {w:Str} (hw:w∈nms):Wd w:=⟨Zo_ (N.len w hw) (by decide),fun c hc=>by have:=N.low w hw c hc; omega⟩
theorem Re (N:NM nms) {s:Nat} (hs:s < 2 ^ nms.length) (l4:nms.length<=4):Wd (E2 nms s):=by
 refine ⟨?_,fun c hc=>by have:=N7 N hs c hc; omega⟩
 unfold E2
 split
 ·decide
 ·have h1:(E6 nms s).length<=4:=by
   unfold E6
   rw [Θl]
   have:∀s,s < 16->(E1 s).length<=4:=by decide +kernel
   exact this s (Zq_ hs (Nat.pow_le_pow_right (by decide) l4))
  have h2:=Ai (d:=8) fun y hy=>N.len y (N2 N hs hy)
  have h3:=StrLaws.join_length_le commaS (E6 nms s)
  have e:commaS.length=1:=rfl
  rw [e] at h3
  omega
theorem Abb (N:NM nms) (l4:nms.length<=4) {x y:Nat} (hx:x < 2 ^ nms.length) (hy:y < 2 ^ nms.length) (h:x|||y < 2 ^ nms.length - 1):RefS nms n .cut (Str.join spaceS [Dq,E2 nms x,E2 nms y]):=by
 refine U0 (fs:=[Dq,F0,F0]) (List.cons_ne_nil _ _) (by show 3<=5; decide) (fun w hw=>?_) (by decide) rfl (fun w hw no=>?_) fun ss al=>?_
 ·simp only [List.mem_cons,List.not_mem_nil,or_false] at hw
  rcases hw with rfl | rfl | rfl
  ·decide
  ·exact Re N hx l4
  ·exact Re N hy l4
 ·have hw:w∈[E2 nms x,E2 nms y]:=hw
  simp only [List.mem_cons,List.not_mem_nil,or_false] at hw
  rcases hw with rfl | rfl
  ·exact absurd no (Ec N hx)
  ·exact absurd no (Ec N hy)
 ·obtain ⟨x',y',rfl,r1,r2⟩:=V8 (a:=E2 nms x) (b:=E2 nms y) al
  rw [r1.same N hx,r2.same N hy]
  exact .inr (.inr ⟨_,_,x,y,rfl,rfl,h,rfl⟩)
theorem Xw (N:NM nms) {w:Str} (hw:w∈nms) (st:Bool):RefS nms 12 .many (Str.join spaceS [Jk,dashS,D6 st,w]):=by
 refine U0 (fs:=[Jk,F0,D6 st,F0]) (List.cons_ne_nil _ _) (by show 4<=5; decide) (fun z hz=>?_) (by cases st <;> decide) (by cases st <;> rfl) (fun z hz no=>?_) fun ss al=>?_
 ·simp only [List.mem_cons,List.not_mem_nil,or_false] at hz
  rcases hz with rfl | rfl | rfl | rfl
  ·decide
  ·decide
  ·cases st <;> decide
  ·exact Jn N hw
 ·have hz:z∈[dashS,w]:=by cases st <;> exact hz
  simp only [List.mem_cons,List.not_mem_nil,or_false] at hz
  rcases hz with rfl | rfl
  ·exact absurd rfl no.1
  ·obtain ⟨i,hi,rfl⟩:∃i,i < nms.length/\nms.getD i noS=z:=by
    obtain ⟨i,hi⟩:=List.getElem?_of_mem hw
    have h1:=(Ze_.mp hi).1
    exact ⟨i,h1,by rw [Zu_,hi]; rfl⟩
   have e:E6 nms (2 ^ i)=[nms.getD i noS]:=by
    have:∀i,i < 7->E1 (2 ^ i)=[i]:=by decide +kernel
    unfold E6
    rw [this i (Zq_ hi N.l7)]
    rfl
   have h1:Txt.split (nms.getD i noS) commaS=[nms.getD i noS]:=X0 (ps:=[nms.getD i noS]) (List.cons_ne_nil _ _) fun p hp=>by
    rw [Θs hp]
    exact Bb N (G1 hi).1
   exact absurd (h1.trans e.symm) (no.2 _ (Nat.pow_lt_pow_right (by decide) hi))
 ·obtain ⟨x',y',rfl,r1,r2⟩:=V8 (a:=dashS) (b:=w) (by cases st <;> exact al)
  exact .inl ⟨_,_,_,_,_,rfl,rfl,fun e=>absurd e (Wl N hw r2),fun _=>⟨rfl,rfl⟩⟩
end
noncomputable abbrev Bi (one:Str) (ls:Addr):List V:=[.non,.int 4,.ref ls,.bl true,.str (Str.ofString ""),.str (Str.ofString "Show"),.str (Str.ofString "shown"),.str (Str.ofString "show "),.str (Str.ofString " show"),.str (Str.ofString "keys "++one),.str (Str.ofString "cover -"),.str (Str.ofString "tree -")]
noncomputable abbrev Bj (one:Str):List V:=[.str (Str.ofString "follows "++one++Str.ofString " settle"),.str (Str.ofString "follows - settle - -"),.str (Str.ofString "follows - Settle -"),.str (Str.ofString "follows - settles -")]
noncomputable abbrev Di (one:Str):List V:=[.str (Str.ofString "part - deal -"),.str (Str.ofString "part A deal B"),.str (Str.ofString "let - deals "++one),.str (Str.ofString "let settle "++one),.str (Str.ofString "cut -"),.str (Str.ofString "cut - - -")]
noncomputable abbrev Fj (n:Nat):List V:=[.str (Str.ofString "drop"),.str (Str.ofString "drop "++O0 n),.str (Str.ofString "drop 00"),.str (Str.ofString "drop -1"),.str (Str.ofString "drop 123"),.str (Str.ofString "drop x"),.str (Str.ofString "drop "),.str (Str.ofString "drop 0 0")]
noncomputable abbrev Hy (one:Str):List V:=[.str (Str.ofString "follows  settle"),.str (Str.ofString "follow - settle -"),.str (Str.ofString "lets - settle "++one),.str (Str.ofString "follows A b C"),.str (Str.ofString "part -  -")]
noncomputable abbrev Ml :List V:=[.str (Str.ofString "drop 1_0"),.str (Str.ofString "parts a"),.str (Str.ofString "cut")]
noncomputable def Xy (one:Str) (n:Nat) (ls:Addr):List V:=Bi one ls++Bj one++Di one++Fj n++Hy one++Ml
theorem wd1 {a:Str} (h:Wd a):∀w∈[a],Wd w:=fun w hw=>by rw [Θs hw]; exact h
theorem wdc {a:Str} {l:List Str} (h:Wd a) (hl:∀w∈l,Wd w):∀w∈a :: l,Wd w:=List.forall_mem_cons.mpr ⟨h,hl⟩
section
variable {K:Θf} {H:Hp} {nms:List Str} {n:Nat} {ws fs:List Str}
theorem F5 (hw:∀w∈ws,Wd w) (h:(decide (ws≠[]) && decide (ws.length<=5) && formsL.all fun fs=>!P9 ws fs)=true):RefV K H nms n .row (.str (Str.join spaceS ws)):=by
 rw [Bool.and_eq_true,Bool.and_eq_true] at h
 refine .inr ⟨_,rfl,Xx (Zj_ h.1.1) (Zj_ h.1.2) hw fun fs hf=>?_⟩
 have:=List.all_eq_true.mp h.2 fs hf
 rwa [Bool.not_eq_true'] at this
theorem Aai:∀n,n<=12->∀i,i < n->O0 n≠O0 i:=by decide +kernel
theorem Wn:∀n,n<=12->Wd (O0 n):=by decide +kernel
theorem Abd (N:NM nms) (n12:n<=12) {one:Str} (h1:Wd one) {ls:Addr} (hls:H ls=some (.lst [.str (Str.ofString "show")])):∀v∈Xy one n ls,RefV K H nms n .row v:=by
 intro v hv
 unfold Xy Bi Bj Di Fj Hy Ml at hv
 simp only [List.cons_append,List.nil_append,List.mem_cons,List.not_mem_nil,or_false] at hv
 rcases hv with rfl | rfl | rfl | rfl | rfl | rfl | rfl | rfl | rfl | rfl | rfl | rfl | rfl | rfl | rfl | rfl | rfl | rfl | rfl | rfl | rfl | rfl | rfl | rfl | rfl | rfl | rfl | rfl | rfl | rfl | rfl | rfl | rfl | rfl | rfl | rfl | rfl | rfl
 ·exact .inl ⟨rfl,_,.non,rfl⟩
 ·exact .inl ⟨rfl,_,.int 4,rfl⟩
 ·exact .inl ⟨rfl,_,.lst hls,rfl⟩
 ·exact .inl ⟨rfl,_,.bl true,rfl⟩
 ·have h:=F5 (K:=K) (H:=H) (nms:=nms) (n:=n) (ws:=[Str.ofString ""]) (wd1 (by decide)) rfl
  exact h
 ·have h:=F5 (K:=K) (H:=H) (nms:=nms) (n:=n) (ws:=[Str.ofString "Show"]) (wd1 (by decide)) rfl
  exact h
 ·have h:=F5 (K:=K) (H:=H) (nms:=nms) (n:=n) (ws:=[Str.ofString "shown"]) (wd1 (by decide)) rfl
  exact h
 ·have h:=F5 (K:=K) (H:=H) (nms:=nms) (n:=n) (ws:=[Str.ofString "show",Str.ofString ""]) (wdc (by decide) (wd1 (by decide))) rfl
  exact h
 ·have h:=F5 (K:=K) (H:=H) (nms:=nms) (n:=n) (ws:=[Str.ofString "",Str.ofString "show"]) (wdc (by decide) (wd1 (by decide))) rfl
  exact h
 ·have h:=F5 (K:=K) (H:=H) (nms:=nms) (n:=n) (ws:=[Str.ofString "keys",one]) (wdc (by decide) (wd1 h1)) rfl
  exact h
 ·have h:=F5 (K:=K) (H:=H) (nms:=nms) (n:=n) (ws:=[Str.ofString "cover",Str.ofString "-"]) (wdc (by decide) (wd1 (by decide))) rfl
  exact h
 ·have h:=F5 (K:=K) (H:=H) (nms:=nms) (n:=n) (ws:=[Str.ofString "tree",Str.ofString "-"]) (wdc (by decide) (wd1 (by decide))) rfl
  exact h
 ·have h:=F5 (K:=K) (H:=H) (nms:=nms) (n:=n) (ws:=[Str.ofString "follows",one,Str.ofString "settle"]) (wdc (by decide) (wdc h1 (wd1 (by decide)))) rfl
  rw [show Str.join spaceS [Str.ofString "follows",one,Str.ofString "settle"]=Str.ofString "follows "++one++Str.ofString " settle" by (show Str.ofString "follows"++spaceS++(one++spaceS++(Str.ofString "settle"))=_); simp only [<-Str.append_assoc]; rfl] at h
  exact h
 ·have h:=F5 (K:=K) (H:=H) (nms:=nms) (n:=n) (ws:=[Str.ofString "follows",Str.ofString "-",Str.ofString "settle",Str.ofString "-",Str.ofString "-"]) (wdc (by decide) (wdc (by decide) (wdc (by decide) (wdc (by decide) (wd1 (by decide)))))) rfl
  exact h
 ·have h:=F5 (K:=K) (H:=H) (nms:=nms) (n:=n) (ws:=[Str.ofString "follows",Str.ofString "-",Str.ofString "Settle",Str.ofString "-"]) (wdc (by decide) (wdc (by decide) (wdc (by decide) (wd1 (by decide))))) rfl
  exact h
 ·have h:=F5 (K:=K) (H:=H) (nms:=nms) (n:=n) (ws:=[Str.ofString "follows",Str.ofString "-",Str.ofString "settles",Str.ofString "-"]) (wdc (by decide) (wdc (by decide) (wdc (by decide) (wd1 (by decide))))) rfl
  exact h
 ·have h:=F5 (K:=K) (H:=H) (nms:=nms) (n:=n) (ws:=[Str.ofString "part",Str.ofString "-",Str.ofString "deal",Str.ofString "-"]) (wdc (by decide) (wdc (by decide) (wdc (by decide) (wd1 (by decide))))) rfl
  exact h
 ·have h:=F5 (K:=K) (H:=H) (nms:=nms) (n:=n) (ws:=[Str.ofString "part",Str.ofString "A",Str.ofString "deal",Str.ofString "B"]) (wdc (by decide) (wdc (by decide) (wdc (by decide) (wd1 (by decide))))) rfl
  exact h
 ·have h:=F5 (K:=K) (H:=H) (nms:=nms) (n:=n) (ws:=[Str.ofString "let",Str.ofString "-",Str.ofString "deals",one]) (wdc (by decide) (wdc (by decide) (wdc (by decide) (wd1 h1)))) rfl
  rw [show Str.join spaceS [Str.ofString "let",Str.ofString "-",Str.ofString "deals",one]=Str.ofString "let - deals "++one by (show Str.ofString "let"++spaceS++(Str.ofString "-"++spaceS++(Str.ofString "deals"++spaceS++(one)))=_); simp only [<-Str.append_assoc]; rfl] at h
  exact h
 ·have h:=F5 (K:=K) (H:=H) (nms:=nms) (n:=n) (ws:=[Str.ofString "let",Str.ofString "settle",one]) (wdc (by decide) (wdc (by decide) (wd1 h1))) rfl
  rw [show Str.join spaceS [Str.ofString "let",Str.ofString "settle",one]=Str.ofString "let settle "++one by (show Str.ofString "let"++spaceS++(Str.ofString "settle"++spaceS++(one))=_); simp only [<-Str.append_assoc]; rfl] at h
  exact h
 ·have h:=F5 (K:=K) (H:=H) (nms:=nms) (n:=n) (ws:=[Str.ofString "cut",Str.ofString "-"]) (wdc (by decide) (wd1 (by decide))) rfl
  exact h
 ·have h:=F5 (K:=K) (H:=H) (nms:=nms) (n:=n) (ws:=[Str.ofString "cut",Str.ofString "-",Str.ofString "-",Str.ofString "-"]) (wdc (by decide) (wdc (by decide) (wdc (by decide) (wd1 (by decide))))) rfl
  exact h
 ·have h:=F5 (K:=K) (H:=H) (nms:=nms) (n:=n) (ws:=[Str.ofString "drop"]) (wd1 (by decide)) rfl
  exact h
 ·exact .inr ⟨_,rfl,R5 (w:=O0 n) (Wn n n12) (Aai n n12)⟩
 ·exact .inr ⟨_,rfl,R5 (w:=Str.ofString "00") (by decide) (fun i hi=>(by decide +kernel:∀i,i < 12->Str.ofString "00"≠O0 i) i (Zq_ hi n12))⟩
 ·exact .inr ⟨_,rfl,R5 (w:=Str.ofString "-1") (by decide) (fun i hi=>(by decide +kernel:∀i,i < 12->Str.ofString "-1"≠O0 i) i (Zq_ hi n12))⟩
 ·exact .inr ⟨_,rfl,R5 (w:=Str.ofString "123") (by decide) (fun i hi=>(by decide +kernel:∀i,i < 12->Str.ofString "123"≠O0 i) i (Zq_ hi n12))⟩
 ·exact .inr ⟨_,rfl,R5 (w:=Str.ofString "x") (by decide) (fun i hi=>(by decide +kernel:∀i,i < 12->Str.ofString "x"≠O0 i) i (Zq_ hi n12))⟩
 ·exact .inr ⟨_,rfl,R5 (w:=Str.ofString "") (by decide) (fun i hi=>(by decide +kernel:∀i,i < 12->Str.ofString ""≠O0 i) i (Zq_ hi n12))⟩
 ·have h:=F5 (K:=K) (H:=H) (nms:=nms) (n:=n) (ws:=[Str.ofString "drop",Str.ofString "0",Str.ofString "0"]) (wdc (by decide) (wdc (by decide) (wd1 (by decide)))) rfl
  exact h
 ·have h:=F5 (K:=K) (H:=H) (nms:=nms) (n:=n) (ws:=[Str.ofString "follows",Str.ofString "",Str.ofString "settle"]) (wdc (by decide) (wdc (by decide) (wd1 (by decide)))) rfl
  exact h
 ·have h:=F5 (K:=K) (H:=H) (nms:=nms) (n:=n) (ws:=[Str.ofString "follow",Str.ofString "-",Str.ofString "settle",Str.ofString "-"]) (wdc (by decide) (wdc (by decide) (wdc (by decide) (wd1 (by decide))))) rfl
  exact h
 ·have h:=F5 (K:=K) (H:=H) (nms:=nms) (n:=n) (ws:=[Str.ofString "lets",Str.ofString "-",Str.ofString "settle",one]) (wdc (by decide) (wdc (by decide) (wdc (by decide) (wd1 h1)))) rfl
  rw [show Str.join spaceS [Str.ofString "lets",Str.ofString "-",Str.ofString "settle",one]=Str.ofString "lets - settle "++one by (show Str.ofString "lets"++spaceS++(Str.ofString "-"++spaceS++(Str.ofString "settle"++spaceS++(one)))=_); simp only [<-Str.append_assoc]; rfl] at h
  exact h
 ·have h:=F5 (K:=K) (H:=H) (nms:=nms) (n:=n) (ws:=[Str.ofString "follows",Str.ofString "A",Str.ofString "b",Str.ofString "C"]) (wdc (by decide) (wdc (by decide) (wdc (by decide) (wd1 (by decide))))) rfl
  exact h
 ·have h:=F5 (K:=K) (H:=H) (nms:=nms) (n:=n) (ws:=[Str.ofString "part",Str.ofString "-",Str.ofString "",Str.ofString "-"]) (wdc (by decide) (wdc (by decide) (wdc (by decide) (wd1 (by decide))))) rfl
  exact h
 ·exact .inr ⟨_,rfl,R5 (w:=Str.ofString "1_0") (by decide) (fun i hi=>(by decide +kernel:∀i,i < 12->Str.ofString "1_0"≠O0 i) i (Zq_ hi n12))⟩
 ·have h:=F5 (K:=K) (H:=H) (nms:=nms) (n:=n) (ws:=[Str.ofString "parts",Str.ofString "a"]) (wdc (by decide) (wd1 (by decide))) rfl
  exact h
 ·have h:=F5 (K:=K) (H:=H) (nms:=nms) (n:=n) (ws:=[Str.ofString "cut"]) (wd1 (by decide)) rfl
  exact h
end
noncomputable abbrev Ng (one other:Str):List Str:=[other,Str.ofString "A",one++Str.ofString ","++one,one++Str.ofString ",",Str.ofString "",Str.ofString ","++one,one++Str.ofString ",-",Str.ofString "--"]
noncomputable abbrev Ia (one B:Str):List V:=[.str (Str.ofString "follows "++B++Str.ofString " settle -"),.str (Str.ofString "follows - deal "++B),.str (Str.ofString "cut "++B++Str.ofString " -"),.str (Str.ofString "cut - "++B)]
noncomputable abbrev Ib (one B:Str):List V:=[.str (Str.ofString "part "++B++Str.ofString " settle "++one),.str (Str.ofString "part - settle "++B),.str (Str.ofString "let "++B++Str.ofString " settle "++one)]
noncomputable abbrev Mm (one B:Str):List V:=[.str (Str.ofString "let - deal "++B),.str (Str.ofString "let "++one++Str.ofString " settle -"),.str (Str.ofString "let - deal -"),.str (Str.ofString "let "++B++Str.ofString " deal -")]
noncomputable abbrev Rc (one B:Str):List V:=[.str (Str.ofString "follows "++B++Str.ofString " deal "++B),.str (Str.ofString "cut "++B++Str.ofString " "++B)]
noncomputable def Ym (one B:Str):List V:=Ia one B++Ib one B++Mm one B++Rc one B
section
variable {K:Θf} {H:Hp} {nms:List Str} {n:Nat}
theorem Zr (N:NM nms) {one other:Str} (h1:one∈nms) (ho:other∉nms) (fo:44∉other.cps.toList) (do_:other≠dashS) (wo:Wd other):∀b∈Ng one other,O6 nms b/\Wd b:=by
 obtain ⟨i,hi,rfl⟩:∃i,i < nms.length/\nms.getD i noS=one:=by
  obtain ⟨i,hi⟩:=List.getElem?_of_mem h1
  exact ⟨i,(Ze_.mp hi).1,by rw [Zu_,hi]; rfl⟩
 generalize e1:nms.getD i noS=one at h1
 have f1:=Bb N h1
 have l1:=N.len one h1
 have lw:=N.low one h1
 have wd:∀b:Str,b.length<=50->(∀c∈b.cps.toList,c=44\/c=45\/97<=c/\c<=122)->Wd b:=fun b hb hc=>⟨hb,fun c h=>by rcases hc c h with z | z | z <;> omega⟩
 have mem2:∀{a b:Str} {c:Nat},c∈(a++b).cps.toList->c∈a.cps.toList\/c∈b.cps.toList:=fun {a b c} h=>by
  rw [Str.cps_append,Array.toList_append] at h
  exact Θa h
 have no0:=Ma N
 intro b hb
 unfold Ng at hb
 simp only [List.mem_cons,List.not_mem_nil,or_false] at hb
 rcases hb with rfl | rfl | rfl | rfl | rfl | rfl | rfl | rfl
 ·exact ⟨X7 N (ps:=[b]) (List.cons_ne_nil _ _) (fun p hp=>by rw [Θs hp]; exact fo) do_ Θc ho,wo⟩
 ·exact ⟨Eh N (by decide) (c:=65) (by decide) (by unfold okC; omega),by decide⟩
 ·refine ⟨?_,wd _ ?_ fun c hc=>?_⟩
  ·have:=Zs N hi hi (Zd_ _)
   rw [e1] at this
   exact this
  ·rw [Str.length_append,Str.length_append]; show one.length + 1 + one.length<=50; omega
  ·rcases mem2 hc with hc | hc
   ·rcases mem2 hc with hc | hc
    ·exact .inr (.inr (lw c hc))
    ·exact .inl ((by decide:∀c∈(Str.ofString ",").cps.toList,c=44) c hc)
   ·exact .inr (.inr (lw c hc))
 ·refine ⟨?_,wd _ ?_ fun c hc=>?_⟩
  ·have:=X7 N (ps:=[one,noS]) (List.cons_ne_nil _ _) (fun p hp=>?_) ?_ (Θd _ Θc) no0
   ·rw [show Str.join commaS [one,noS]=one++Str.ofString "," from Str.append_empty (one++commaS)] at this
    exact this
   ·simp only [List.mem_cons,List.not_mem_nil,or_false] at hp
    rcases hp with rfl | rfl
    ·exact f1
    ·decide
   ·intro e
    have:44∈(Str.join commaS [one,noS]).cps.toList:=by
     show 44∈(one++commaS++noS).cps.toList
     rw [Str.cps_append,Str.cps_append,Array.toList_append,Array.toList_append]
     exact Zt_ _ (Zh_ _ (by decide))
    rw [e] at this
    exact absurd this (by decide)
  ·rw [Str.length_append]; show one.length + 1<=50; omega
  ·rcases mem2 hc with hc | hc
   ·exact .inr (.inr (lw c hc))
   ·exact .inl ((by decide:∀c∈(Str.ofString ",").cps.toList,c=44) c hc)
 ·exact ⟨X7 N (ps:=[noS]) (List.cons_ne_nil _ _) (by decide) (by decide) Θc no0,by decide⟩
 ·refine ⟨?_,wd _ ?_ fun c hc=>?_⟩
  ·have:=X7 N (ps:=[noS,one]) (List.cons_ne_nil _ _) (fun p hp=>?_) ?_ Θc no0
   ·exact this
   ·simp only [List.mem_cons,List.not_mem_nil,or_false] at hp
    rcases hp with rfl | rfl
    ·decide
    ·exact f1
   ·intro e
    have:44∈(Str.join commaS [noS,one]).cps.toList:=by
     show 44∈(noS++commaS++one).cps.toList
     rw [Str.cps_append,Str.cps_append,Array.toList_append,Array.toList_append]
     exact Zt_ _ (Zh_ _ (by decide))
    rw [e] at this
    exact absurd this (by decide)
  ·rw [Str.length_append]; show 1 + one.length<=50; omega
  ·rcases mem2 hc with hc | hc
   ·exact .inl ((by decide:∀c∈(Str.ofString ",").cps.toList,c=44) c hc)
   ·exact .inr (.inr (lw c hc))
 ·have h45:45∈(one++Str.ofString ",-").cps.toList:=by
   rw [Str.cps_append,Array.toList_append]
   exact Zh_ _ (by decide)
  have h44:44∈(one++Str.ofString ",-").cps.toList:=by
   rw [Str.cps_append,Array.toList_append]
   exact Zh_ _ (by decide)
  refine ⟨Eh N (fun e=>?_) h45 (by unfold okC; omega),wd _ ?_ fun c hc=>?_⟩
  ·rw [e] at h44
   exact absurd h44 (by decide)
  ·rw [Str.length_append]; show one.length + 2<=50; omega
  ·rcases mem2 hc with hc | hc
   ·exact .inr (.inr (lw c hc))
   ·have:=(by decide:∀c∈(Str.ofString ",-").cps.toList,c=44\/c=45) c hc
    omega
 ·exact ⟨Eh N (by decide) (c:=45) (by decide) (by unfold okC; omega),by decide⟩
theorem Abi (N:NM nms) {one B:Str} (m1:one∈nms) (nB:O6 nms B) (hB:Wd B):∀v∈Ym one B,RefV K H nms n .set v:=by
 have h1:=Jn N m1
 intro v hv
 unfold Ym Ia Ib Mm Rc at hv
 simp only [List.cons_append,List.nil_append,List.mem_cons,List.not_mem_nil,or_false] at hv
 rcases hv with rfl | rfl | rfl | rfl | rfl | rfl | rfl | rfl | rfl | rfl | rfl | rfl | rfl
 ·have h:=O3 (nms:=nms) (n:=n) (ws:=[Str.ofString "follows",B,Str.ofString "settle",Str.ofString "-"]) (fs:=[Str.ofString "follows",F0,Str.ofString "settle",F0]) (List.cons_ne_nil _ _) (by show 4<=5; decide) (wdc (by decide) (wdc hB (wdc (by decide) (wd1 (by decide))))) (by decide) rfl (b:=B) Θc nB
  rw [(show Str.join spaceS [Str.ofString "follows",B,Str.ofString "settle",Str.ofString "-"]=Str.ofString "follows "++B++Str.ofString " settle -" by (show Str.ofString "follows"++spaceS++(B++spaceS++(Str.ofString "settle"++spaceS++(Str.ofString "-")))=_); simp only [<-Str.append_assoc]; rfl)] at h
  exact .inr ⟨_,rfl,h⟩
 ·have h:=O3 (nms:=nms) (n:=n) (ws:=[Str.ofString "follows",Str.ofString "-",Str.ofString "deal",B]) (fs:=[Str.ofString "follows",F0,Str.ofString "deal",F0]) (List.cons_ne_nil _ _) (by show 4<=5; decide) (wdc (by decide) (wdc (by decide) (wdc (by decide) (wd1 hB)))) (by decide) rfl (b:=B) (Θd _ Θc) nB
  rw [(show Str.join spaceS [Str.ofString "follows",Str.ofString "-",Str.ofString "deal",B]=Str.ofString "follows - deal "++B by (show Str.ofString "follows"++spaceS++(Str.ofString "-"++spaceS++(Str.ofString "deal"++spaceS++(B)))=_); simp only [<-Str.append_assoc]; rfl)] at h
  exact .inr ⟨_,rfl,h⟩
 ·have h:=O3 (nms:=nms) (n:=n) (ws:=[Str.ofString "cut",B,Str.ofString "-"]) (fs:=[Str.ofString "cut",F0,F0]) (List.cons_ne_nil _ _) (by show 3<=5; decide) (wdc (by decide) (wdc hB (wd1 (by decide)))) (by decide) rfl (b:=B) Θc nB
  rw [(show Str.join spaceS [Str.ofString "cut",B,Str.ofString "-"]=Str.ofString "cut "++B++Str.ofString " -" by (show Str.ofString "cut"++spaceS++(B++spaceS++(Str.ofString "-"))=_); simp only [<-Str.append_assoc]; rfl)] at h
  exact .inr ⟨_,rfl,h⟩
 ·have h:=O3 (nms:=nms) (n:=n) (ws:=[Str.ofString "cut",Str.ofString "-",B]) (fs:=[Str.ofString "cut",F0,F0]) (List.cons_ne_nil _ _) (by show 3<=5; decide) (wdc (by decide) (wdc (by decide) (wd1 hB))) (by decide) rfl (b:=B) (Θd _ Θc) nB
  rw [(show Str.join spaceS [Str.ofString "cut",Str.ofString "-",B]=Str.ofString "cut - "++B by (show Str.ofString "cut"++spaceS++(Str.ofString "-"++spaceS++(B))=_); simp only [<-Str.append_assoc]; rfl)] at h
  exact .inr ⟨_,rfl,h⟩
 ·have h:=O3 (nms:=nms) (n:=n) (ws:=[Str.ofString "part",B,Str.ofString "settle",one]) (fs:=[Str.ofString "part",F0,Str.ofString "settle",F0]) (List.cons_ne_nil _ _) (by show 4<=5; decide) (wdc (by decide) (wdc hB (wdc (by decide) (wd1 h1)))) (by decide) rfl (b:=B) Θc nB
  rw [(show Str.join spaceS [Str.ofString "part",B,Str.ofString "settle",one]=Str.ofString "part "++B++Str.ofString " settle "++one by (show Str.ofString "part"++spaceS++(B++spaceS++(Str.ofString "settle"++spaceS++(one)))=_); simp only [<-Str.append_assoc]; rfl)] at h
  exact .inr ⟨_,rfl,h⟩
 ·have h:=O3 (nms:=nms) (n:=n) (ws:=[Str.ofString "part",Str.ofString "-",Str.ofString "settle",B]) (fs:=[Str.ofString "part",F0,Str.ofString "settle",F0]) (List.cons_ne_nil _ _) (by show 4<=5; decide) (wdc (by decide) (wdc (by decide) (wdc (by decide) (wd1 hB)))) (by decide) rfl (b:=B) (Θd _ Θc) nB
  rw [(show Str.join spaceS [Str.ofString "part",Str.ofString "-",Str.ofString "settle",B]=Str.ofString "part - settle "++B by (show Str.ofString "part"++spaceS++(Str.ofString "-"++spaceS++(Str.ofString "settle"++spaceS++(B)))=_); simp only [<-Str.append_assoc]; rfl)] at h
  exact .inr ⟨_,rfl,h⟩
 ·have h:=O3 (nms:=nms) (n:=n) (ws:=[Str.ofString "let",B,Str.ofString "settle",one]) (fs:=[Str.ofString "let",F0,Str.ofString "settle",F0]) (List.cons_ne_nil _ _) (by show 4<=5; decide) (wdc (by decide) (wdc hB (wdc (by decide) (wd1 h1)))) (by decide) rfl (b:=B) Θc nB
  rw [(show Str.join spaceS [Str.ofString "let",B,Str.ofString "settle",one]=Str.ofString "let "++B++Str.ofString " settle "++one by (show Str.ofString "let"++spaceS++(B++spaceS++(Str.ofString "settle"++spaceS++(one)))=_); simp only [<-Str.append_assoc]; rfl)] at h
  exact .inr ⟨_,rfl,h⟩
 ·have h:=O3 (nms:=nms) (n:=n) (ws:=[Str.ofString "let",Str.ofString "-",Str.ofString "deal",B]) (fs:=[Str.ofString "let",F0,Str.ofString "deal",F0]) (List.cons_ne_nil _ _) (by show 4<=5; decide) (wdc (by decide) (wdc (by decide) (wdc (by decide) (wd1 hB)))) (by decide) rfl (b:=B) (Θd _ Θc) nB
  rw [(show Str.join spaceS [Str.ofString "let",Str.ofString "-",Str.ofString "deal",B]=Str.ofString "let - deal "++B by (show Str.ofString "let"++spaceS++(Str.ofString "-"++spaceS++(Str.ofString "deal"++spaceS++(B)))=_); simp only [<-Str.append_assoc]; rfl)] at h
  exact .inr ⟨_,rfl,h⟩
 ·have h:=U0 (nms:=nms) (n:=n) (k:=.set) (ws:=[Str.ofString "let",one,Str.ofString "settle",Str.ofString "-"]) (fs:=[Str.ofString "let",F0,Str.ofString "settle",F0]) (List.cons_ne_nil _ _) (by show 4<=5; decide) (wdc (by decide) (wdc h1 (wdc (by decide) (wd1 (by decide))))) (by decide) rfl (fun _ _ _=>rfl) fun ss al=>by
   obtain ⟨x,y,rfl,_,r2⟩:=V8 (a:=one) (b:=Str.ofString "-") al
   exact .inl ⟨_,_,_,x,y,rfl,rfl,fun _=>rfl,fun e=>absurd (Gx r2) e⟩
  rw [(show Str.join spaceS [Str.ofString "let",one,Str.ofString "settle",Str.ofString "-"]=Str.ofString "let "++one++Str.ofString " settle -" by (show Str.ofString "let"++spaceS++(one++spaceS++(Str.ofString "settle"++spaceS++(Str.ofString "-")))=_); simp only [<-Str.append_assoc]; rfl)] at h
  exact .inr ⟨_,rfl,h⟩
 ·have h:=U0 (nms:=nms) (n:=n) (k:=.set) (ws:=[Str.ofString "let",Str.ofString "-",Str.ofString "deal",Str.ofString "-"]) (fs:=[Str.ofString "let",F0,Str.ofString "deal",F0]) (List.cons_ne_nil _ _) (by show 4<=5; decide) (wdc (by decide) (wdc (by decide) (wdc (by decide) (wd1 (by decide))))) (by decide) rfl (fun _ _ _=>rfl) fun ss al=>by
   obtain ⟨x,y,rfl,_,r2⟩:=V8 (a:=Str.ofString "-") (b:=Str.ofString "-") al
   exact .inl ⟨_,_,_,x,y,rfl,rfl,fun _=>rfl,fun e=>absurd (Gx r2) e⟩
  exact .inr ⟨_,rfl,h⟩
 ·have h:=O3 (nms:=nms) (n:=n) (ws:=[Str.ofString "let",B,Str.ofString "deal",Str.ofString "-"]) (fs:=[Str.ofString "let",F0,Str.ofString "deal",F0]) (List.cons_ne_nil _ _) (by show 4<=5; decide) (wdc (by decide) (wdc hB (wdc (by decide) (wd1 (by decide))))) (by decide) rfl (b:=B) Θc nB
  rw [(show Str.join spaceS [Str.ofString "let",B,Str.ofString "deal",Str.ofString "-"]=Str.ofString "let "++B++Str.ofString " deal -" by (show Str.ofString "let"++spaceS++(B++spaceS++(Str.ofString "deal"++spaceS++(Str.ofString "-")))=_); simp only [<-Str.append_assoc]; rfl)] at h
  exact .inr ⟨_,rfl,h⟩
 ·have h:=O3 (nms:=nms) (n:=n) (ws:=[Str.ofString "follows",B,Str.ofString "deal",B]) (fs:=[Str.ofString "follows",F0,Str.ofString "deal",F0]) (List.cons_ne_nil _ _) (by show 4<=5; decide) (wdc (by decide) (wdc hB (wdc (by decide) (wd1 hB)))) (by decide) rfl (b:=B) Θc nB
  rw [(show Str.join spaceS [Str.ofString "follows",B,Str.ofString "deal",B]=Str.ofString "follows "++B++Str.ofString " deal "++B by (show Str.ofString "follows"++spaceS++(B++spaceS++(Str.ofString "deal"++spaceS++(B)))=_); simp only [<-Str.append_assoc]; rfl)] at h
  exact .inr ⟨_,rfl,h⟩
 ·have h:=O3 (nms:=nms) (n:=n) (ws:=[Str.ofString "cut",B,B]) (fs:=[Str.ofString "cut",F0,F0]) (List.cons_ne_nil _ _) (by show 3<=5; decide) (wdc (by decide) (wdc hB (wd1 hB))) (by decide) rfl (b:=B) Θc nB
  rw [(show Str.join spaceS [Str.ofString "cut",B,B]=Str.ofString "cut "++B++Str.ofString " "++B by (show Str.ofString "cut"++spaceS++(B++spaceS++(B))=_); simp only [<-Str.append_assoc]; rfl)] at h
  exact .inr ⟨_,rfl,h⟩
end
noncomputable def W9 (K:Θf):Sp:=fun vs H Q _=>∃(np rl:Addr) (nms:List Str) (xs:List V) (c:Nat),vs=[.ref np,.ref rl,vN c]/\NAt K H np nms/\NM nms/\nms.length<=4/\SqL K H rl xs/\xs.length<=12/\
 ∀(t:Addr) (v:V) (k:Kd) (H':Hp),Same H H'->RefV K H' nms xs.length k v->H' t=some (.tup [v,.str (kw k)])->Q (.ref t) H'
noncomputable def six:List Str:=[Str.ofString "a",Str.ofString "b",Str.ofString "c",Str.ofString "d",Str.ofString "e",Str.ofString "zz"]
theorem Ac9 {nms:List Str} (l4:nms.length<=4):∃o r,six.filter (fun w=>!decide (w∈nms))=o :: r/\o∉nms/\44∉o.cps.toList/\o≠dashS/\Wd o:=by
 cases e:six.filter (fun w=>!decide (w∈nms)) with
 | nil=>
  have all:∀w∈six,w∈nms:=fun w hw=>by
   have:=List.filter_eq_nil_iff.mp e w hw
   simpa using this
  have nd:six.Nodup:=by decide
  have:=nd.length_le_of_subset (l₂:=nms) all
  have e6:six.length=6:=rfl
  omega
 | cons o r=>
  have ho:o∈six.filter (fun w=>!decide (w∈nms)):=by rw [e]; exact Θc
  obtain ⟨h1,h2⟩:=List.mem_filter.mp ho
  have h3:∀o∈six,44∉o.cps.toList/\o≠dashS/\Wd o:=by decide
  exact ⟨o,r,rfl,by simpa using h2,h3 o h1⟩
theorem Ac8 {n i a b:Nat} (hi:i < n):(a&&&(2 ^ n - 1 - 2 ^ i))|||(b&&&(2 ^ n - 1 - 2 ^ i)) < 2 ^ n - 1:=by
 have e:(a&&&(2 ^ n - 1 - 2 ^ i))|||(b&&&(2 ^ n - 1 - 2 ^ i))=(a|||b)&&&(2 ^ n - 1 - 2 ^ i):=by
  apply Nat.eq_of_testBit_eq
  intro j
  simp only [Nat.testBit_or,Nat.testBit_and]
  cases a.testBit j <;> cases b.testBit j <;> cases (2 ^ n - 1 - 2 ^ i).testBit j <;> rfl
 rw [e]
 have h1:(a|||b)&&&(2 ^ n - 1 - 2 ^ i)<=2 ^ n - 1 - 2 ^ i:=Nat.and_le_right
 have h2:0 < 2 ^ i:=Nat.two_pow_pos _
 have h3:2 ^ i < 2 ^ n:=Nat.pow_lt_pow_right (by decide) hi
 omega
theorem Wr {n i a:Nat} (hi:i < n):a&&&(2 ^ n - 1 - 2 ^ i) < 2 ^ n:=by
 have h1:a&&&(2 ^ n - 1 - 2 ^ i)<=2 ^ n - 1 - 2 ^ i:=Nat.and_le_right
 have h3:0 < 2 ^ n:=Nat.two_pow_pos _
 exact Nat.lt_of_le_of_lt h1 (Nat.lt_of_le_of_lt (Nat.sub_le _ _) (Nat.sub_lt h3 (by decide)))
noncomputable def Ik (K:Θf):Sp:=fun vs H Q _=>∃(sc:Addr) (ns:List Int) (mo:Nat),vs=[.ref sc,vN mo]/\1<=mo/\mo<=7/\SqL K H sc (ns.map V.int)/\
 ∀(t nl rl:Addr) (nms:List Str) (rs:List Rl) (H':Hp),NM nms->NW nms->nms.length<=mo->Same H H'->RulesAt H' nms.length rs->(∀r∈rs,r.y≠0)->rs.length<=12->H' t=some (.tup [.ref nl,.ref rl])->H' nl=some (.lst (nms.map V.str))->H' rl=some (.lst (rs.map fun r=>V.ref r.r))->Q (.ref t) H'
theorem Uv {nms:List Str} {rs:List Rl} {CR CS CC CM:Addr} {H:Hp} {Q:VK} {E:XK} {a:Ask} (N:NM nms) (ha:Ef nms.length a) (pa:Zn a=true) (q:∀H',Same H H'->Q (.str (Kv nms (rs.map Rl.d) a)) H'):Ab7 nms rs CR CS CC CM (Str.join spaceS (U4 nms a)) H Q E:=by
 refine ⟨Zp N ha,O7 (sc:=32) (p:=fun c=>c < 128) (by decide) (fun w hw c hc=>((Bw N ha w hw).1 c hc).2),.inr ?_⟩
 rw [Ry N ha]
 have hf:(Ab9 nms a).map (·.1)∈formsL:=Θe (Uu nms a)
 have fin:∀ss,ss=Aec a->RowT nms rs CR CS CC CM (U4 nms a) ss H Q E:=fun ss e=>.inr (.inr (.inl ⟨a,rfl,e,ha,pa,q⟩))
 have tw:∀{b c:Str} {x y:Nat} {ss:List Nat},b=E2 nms x->c=E2 nms y->x < 2 ^ nms.length->y < 2 ^ nms.length->All2 (RdS nms) [b,c] ss->ss=[x,y]:=fun {b c x y ss} e1 e2 hx hy al=>by
  subst e1 e2
  obtain ⟨x',y',rfl,r1,r2⟩:=V8 al
  rw [r1.same N hx,r2.same N hy]
 refine ⟨_,hf,Kw nms a,fun gs hg h=>Mh hf hg (Kw nms a) h,?_,fun ss al=>fin ss ?_⟩
 ·cases a with
  | fol st x y=>
   intro w hw no
   have hw:w∈[E2 nms x,E2 nms y]:=by cases st <;> exact hw
   simp only [List.mem_cons,List.not_mem_nil,or_false] at hw
   rcases hw with rfl | rfl
   ·exact absurd no (Ec N ha.1)
   ·exact absurd no (Ec N ha.2)
  | «show»=>intro w hw; cases hw
  | keys=>intro w hw; cases hw
  | cover=>intro w hw; cases hw
  | cut x y=>cases pa
  | tree=>cases pa
  | parts=>cases pa
  | part x y=>cases pa
 ·have nil:∀{ss:List Nat},All2 (RdS nms) [] ss->ss=[]:=fun h=>by cases h; rfl
  cases a with
  | fol st x y=>exact tw rfl rfl ha.1 ha.2 (by cases st <;> exact al)
  | «show»=>exact nil al
  | keys=>exact nil al
  | cover=>exact nil al
  | cut x y=>cases pa
  | tree=>cases pa
  | parts=>cases pa
  | part x y=>cases pa
theorem Nl {K:Θf} {CD CN:Addr} (vs:List V) (H:Hp) (Q:VK) (E:XK) (h:Rh CD vs H Q E):Fw K CD CN vs H Q (fun _ _ _=>False):=by
 obtain ⟨d,dx,nms,rs,rfl,hd,N,W,hI,l12,q⟩:=h
 refine ⟨d,dx,_,rfl,Tx N W hI l12 fun t nl rl ks H1 s1 hn0 hr0 nnr ek hR ht hn hrl hne=>?_⟩
 have hd1:=s1 _ _ hd
 have nld:nl≠d:=(C4 hd hn0).symm
 have rld:rl≠d:=(C4 hd hr0).symm
 refine ⟨t,nl,rl,rfl,ht,hd1,fun H2 B2 hD=>q nl rl ks H2 (fun b o e hb=>B2 b o (s1 _ _ e) hb) nld rld nnr hn0 hr0 hD ek (fun r hr=>⟨?_,(hR r hr).2⟩) (B2 _ _ hn nld) (B2 _ _ hrl rld)⟩
 refine B2 _ _ (hR r hr).1 fun e=>?_
 have:=(hR r hr).1
 unfold K8 at this
 rw [e,hd1] at this
 cases this
theorem Nk (rs:List Rl):R8 (rs.map fun r=>V.ref r.r) none (some ((12:Nat):Int))=(rs.take 12).map fun r=>V.ref r.r:=by
 have e1:HT.sIx (rs.map fun r=>V.ref r.r).length 0 none=0:=rfl
 unfold R8
 rw [e1,HT.sIx_nat,List.map_take,Θl]
 simp
theorem Mo {nms:List Str} (N:NM nms) {i:Nat} (hi:i < nms.length):E2 nms (2 ^ i)=nms.getD i noS:=by
 have h:∀i,i < 7->E1 (2 ^ i)=[i]:=by decide +kernel
 unfold E2
 rw [if_neg (Nat.ne_of_gt (Nat.two_pow_pos i))]
 unfold E6
 rw [h i (Zq_ hi N.l7)]
 rfl
noncomputable def Ey (nms:List Str):List V:=[.str (Str.ofString "keys"),.str (Str.ofString "cover"),.str (Str.ofString "follows - settle "++nms.getD (nms.length - 1) noS),.str (Str.ofString "follows "++nms.getD 0 noS++Str.ofString " deal "++nms.getD (nms.length - 1) noS)]
theorem Vz {nms:List Str} (N:NM nms):∀v∈Ey nms,∃a,Ef nms.length a/\Zn a=true/\v = .str (Str.join spaceS (U4 nms a)):=by
 have l1:=N.l1
 have p0:2 ^ 0 < 2 ^ nms.length:=Nat.pow_lt_pow_right (by decide) (by omega)
 have pl:2 ^ (nms.length - 1) < 2 ^ nms.length:=Nat.pow_lt_pow_right (by decide) (by omega)
 have e0:=Mo N (show 0 < nms.length by omega)
 have el:=Mo N (show nms.length - 1 < nms.length by omega)
 intro v hv
 unfold Ey at hv
 simp only [List.mem_cons,List.not_mem_nil,or_false] at hv
 rcases hv with rfl | rfl | rfl | rfl
 ·exact ⟨.keys,trivial,rfl,rfl⟩
 ·exact ⟨.cover,trivial,rfl,rfl⟩
 ·refine ⟨.fol true 0 (2 ^ (nms.length - 1)),⟨Nat.two_pow_pos _,pl⟩,rfl,?_⟩
  show _=V.str (Str.join spaceS [Str.ofString "follows",E2 nms 0,D6 true,E2 nms (2 ^ (nms.length - 1))])
  rw [el,show E2 nms 0=dashS from rfl]
  congr 1
  show _=Str.ofString "follows"++spaceS++(dashS++spaceS++(D6 true++spaceS++nms.getD (nms.length - 1) noS))
  simp only [<-Str.append_assoc]
  rfl
 ·refine ⟨.fol false (2 ^ 0) (2 ^ (nms.length - 1)),⟨p0,pl⟩,rfl,?_⟩
  show _=V.str (Str.join spaceS [Str.ofString "follows",E2 nms (2 ^ 0),D6 false,E2 nms (2 ^ (nms.length - 1))])
  rw [el,e0]
  congr 1
  show _=Str.ofString "follows"++spaceS++(nms.getD 0 noS++spaceS++(D6 false++spaceS++nms.getD (nms.length - 1) noS))
  simp only [<-Str.append_assoc]
  have e:∀x y:Str,x++Str.ofString " deal "++y=x++spaceS++D6 false++spaceS++y:=fun x y=>by
   rw [show Str.ofString " deal " = spaceS++D6 false++spaceS from rfl]
   simp only [<-Str.append_assoc]
  rw [e]
  rfl
end L2
namespace Own
open PySem L2
section
variable {P:Program} {w:World} {K:Θf} {mg:Str->Option Value} {base:Heap}
seal PySem.wpAny
noncomputable def Rm (K:Θf):Sp:=fun vs H Q _=>∃(a:Addr) (ns:List Int),vs=[.ref a]/\SqF K H a ns/\ns.length<=63/\∀H',Q (.bl true) H'
noncomputable abbrev Ub:Stmt:=top 99
theorem scLaw:FnScope ["_law_script","_law_names_here","_law_rules_here","_law_text_here","_law_desk","_law_beside_it","_law_k","_law_row_here","_law_due"] ["_law_script"] (B6 Ub):=⟨rfl,rfl,rfl,by decide +kernel,rfl,by decide +kernel,by decide +kernel⟩
theorem Ac0 {f fCA fTB fLT fRO fRF fND fSY fDI CD:Addr} {ck:Kd->Addr} {fd fdCA fdTB fdLT fdRO fdRF fdND fdSY fdDI:FuncData} (F:Fun K "law" "law" Ub f fd) (GCA:FnOk P w K mg base CX0 1 fCA fdCA ["_law_script","_law_k"] (Bp K)) (mCA:mg "_law_cell_at" = some (.ref fCA)) (kCA:Θk K fCA) (bCA:Binds K fdCA ["_law_script","_law_k"] []) (GTB:FnOk P w K mg base CX0 3 fTB fdTB ["_law_script","_law_most"] (Ik K)) (mTB:mg "_law_table" = some (.ref fTB)) (kTB:Θk K fTB) (bTB:Binds K fdTB ["_law_script","_law_most"] []) (GLT:FnOk P w K mg base CX0 3 fLT fdLT ["_law_names_here","_law_rules_here"] (Ee K)) (mLT:mg "_law_text" = some (.ref fLT)) (kLT:Θk K fLT) (bLT:Binds K fdLT ["_law_names_here","_law_rules_here"] []) (GRO:FnOk P w K mg base CX0 4 fRO fdRO ["_law_names_here","_law_rules_here","_law_cell"] (W9 K)) (mRO:mg "_law_row" = some (.ref fRO)) (kRO:Θk K fRO) (bRO:Binds K fdRO ["_law_names_here","_law_rules_here","_law_cell"] []) (GRF:FnOk P w K mg base CX0 11 fRF fdRF ["_law_desk","_law_row_here","_law_due"] (Yy K CD)) (mRF:mg "_law_refused" = some (.ref fRF)) (kRF:Θk K fRF) (bRF:Binds K fdRF ["_law_desk","_law_row_here","_law_due"] []) (GND:FnOk P w K mg base CX0 7 fND fdND ["_law_names_here","_law_text_here","_law_cell"] (Mu K)) (mND:mg "_law_no_desk" = some (.ref fND)) (kND:Θk K fND) (bND:Binds K fdND ["_law_names_here","_law_text_here","_law_cell"] []) (T:DK K CD) (MS:Meth K CD "say" fSY) (GSY:FnOk P w K mg base CX0 10 fSY fdSY ["self","row"] (fun vs H Q _=>Cr K CD (ck .row) (ck .set) (ck .cut) (ck .many) vs H Q fun _ _ _=>False)) (bSY:Binds K fdSY ["self","row"] []) (MD:Mk K CD fDI) (GDI:FnOk P w K mg base CX0 5 fDI fdDI ["self","text"] (Rh CD)) (bDI:Binds K fdDI ["self","text"] []) (mDK:mg "Desk" = some (.ref CD)) (zrange:mg "range" = none):FnOk P w K mg base CX0 12 f fd ["_law_script"] (Rm K):=by
 refine F.ok scLaw (fun vs H Q E h=>?_) (fun cdv A outer s H vs Q E hr h=>?_)
 ·obtain ⟨a,ns,rfl,_⟩:=h
  rfl
 ·obtain ⟨a,ns,rfl,hS,hlen,q⟩:=h
  have nd:=scLaw.nd
  have hr1:Room 1 _:=hr.mono (by decide)
  have hr3:Room 3 _:=hr.mono (by decide)
  have hr4:Room 4 _:=hr.mono (by decide)
  have hr6:Room 6 _:=hr.mono (by decide)
  have hr7:Room 7 _:=hr.mono (by decide)
  have hr10:Room 10 _:=hr.mono (by decide)
  have hr11:Room 11 _:=hr.mono (by decide)
  refine ⟨_,(A8 (Jw (C0 GTB hr3 rfl mTB kTB bTB .nil D1 (A0 (pv 0) (A0 A9 A7))) (W5 rfl (F3 (D3 (i:=1) nd rfl (Or.inl rfl)) (F3 (D3 (i:=2) nd rfl (Or.inl rfl)) Q6))))
   (A8 (E3 (C5 N6 (B8 D9 (C0 GCA hr1 rfl mCA kCA bCA .nil D1 (A0 (pv 0) (A0 A9 A7))) A9) A9 (D0 _)) (B0 (C3 (i:=2) nd rfl (Or.inl rfl) (I0 N0 (B8 F2 (pv 2) (B8 Cj (D8 (A0 (G3 (A0 B7 (A0 A9 (A0 A9 A7)))) A7)) A9)) M7 (K6 A9)))) C9)
   (A8 (C3 (i:=3) nd rfl (Or.inl rfl) (C0 GLT hr3 rfl mLT kLT bLT .nil D1 (A0 (pv 1) (A0 (pv 2) A7))))
   (A8 (C3 (i:=4) nd rfl (Or.inl rfl) (Qt MD GDI hr6 (by rfl) mDK bDI .nil D1 (A0 (pv 3) A7)))
   (A8 (C3 (i:=5) nd rfl (Or.inl rfl) (Qt MD GDI hr6 (by rfl) mDK bDI .nil D1 (A0 (pv 3) A7)))
   (A8 (L7 PassesOwn.never rfl (M6 rfl zrange (A0 A9 A7)) (D3 (i:=6) nd rfl (Or.inl rfl)) (A8 (Jw (C0 GRO hr4 rfl mRO kRO bRO .nil D1 (A0 (pv 1) (A0 (pv 2) (A0 (C0 GCA hr1 rfl mCA kCA bCA .nil D1 (A0 (pv 0) (A0 (B8 G8 A9 (pv 6)) A7))) A7)))) (W5 rfl (F3 (D3 (i:=7) nd rfl (Or.inl rfl)) (F3 (D3 (i:=8) nd rfl (Or.inl rfl)) Q6))))
   (B0 (E3 (PW.pt (Bh (W6 (O2 (C0 GRF hr11 rfl mRF kRF bRF .nil D1 (A0 (pv 4) (A0 (pv 7) (A0 (pv 8) A7)))))) (Cl (W6 (O2 (C0 GND hr7 rfl mND kND bND .nil D1 (A0 (pv 1) (A0 (pv 3) (A0 (C0 GCA hr1 rfl mCA kCA bCA .nil D1 (A0 (pv 0) (A0 (B8 G8 A9 (pv 6)) A7))) A7))))))))) (B0 (C2 W4)) C9))))
   (A8 (E3 (C5 op_ne (Bf (pv 4) T.cl MS GSY hr10 bSY .nil D1 (A0 B7 A7)) (pv 3) (D0 _)) (B0 (C2 W4)) C9)
   (A8 (L7 PassesOwn.never rfl (F1 (K:=K) rfl (D8 (A0 B7 (A0 B7 (A0 (B8 C1 B7 (C7 (C6 (K:=K) rfl) (pv 1) (Hv Ze A9) (fun _ _=>rfl))) (A0 (B8 C1 (B8 C1 (B8 C1 B7 (C7 (C6 (K:=K) rfl) (pv 1) A9 (fun _ _=>rfl))) B7) (C7 (C6 (K:=K) rfl) (pv 1) (Hv Ze A9) (fun _ _=>rfl))) A7)))))) (D3 (i:=7) nd rfl (Or.inl rfl)) (B0 (E3 (C5 op_ne (Bf (pv 4) T.cl MS GSY hr10 bSY .nil D1 (A0 (pv 7) A7)) (Bf (pv 5) T.cl MS GSY hr10 bSY .nil D1 (A0 (pv 7) A7)) (D0 _)) (B0 (C2 W4)) C9)))
   (B0 (C2 W4)))))))))),?_⟩
  refine ⟨_,rfl,a,ns,4,rfl,(by decide),(by decide),hS.sq,fun t nl rl0 nms rs0 H1 NN NNW l4 s1 hR0 hy0 l120 ht hnl hrl0=>?_⟩
  refine ⟨t,_,rfl,SqT.of ht,rfl,_,_,rfl,_,_,rfl,rfl,?_⟩
  have ln:(nms.map V.str).length=nms.length:=Θl ..
  have l1:=NN.l1
  refine via (G:=?GG1) (fun G=>∀(rl:Addr) (rs:List Rl) (H2:Hp),Same H H2->RulesAt H2 nms.length rs->(∀r∈rs,r.y≠0)->rs.length<=12->H2 nl=some (.lst (nms.map V.str))->H2 rl=some (.lst (rs.map fun (r:Rl)=>V.ref r.r))->G [some (.ref a),some (.ref nl),some (.ref rl),none,none,none,none,none,none] H2) (fun main=>?use1) ?main1
  case use1=>
   refine ⟨_,rfl,a,ns,2,rfl,s1.seq hS.sq,by omega,fun c2 hc2=>?_⟩
   refine ⟨c2,3,rfl,rfl,(by show 0 < 3; decide),c2 % 3,0,rfl,rfl,_,rfl,F7 (fun _=>?_) (fun _=>?_)⟩
   ·refine ⟨_,rfl,(by show 3<=sizeLine; decide),fun tp htp=>?_⟩
    have s2:=Same.new (o:=.tup [V.str (Str.ofString "settle"),V.int 0,V.int 1]) htp
    have g2:(upd H1 tp (.tup [V.str (Str.ofString "settle"),V.int 0,V.int 1])) tp=some (.tup [V.str (Str.ofString "settle"),V.int 0,V.int 1]):=A6
    generalize upd H1 tp (.tup [V.str (Str.ofString "settle"),V.int 0,V.int 1])=H2 at s2 g2
    refine ⟨(by show 1<=sizeLine; decide),fun p1 hp1=>?_⟩
    have s3:=Same.new (o:=.lst [V.ref tp]) hp1
    have g3:(upd H2 p1 (.lst [V.ref tp])) p1=some (.lst [V.ref tp]):=A6
    replace g2:=s3 _ _ g2
    replace s3:=s2.trans s3
    generalize upd H2 p1 (.lst [V.ref tp])=H3 at s3 g3 g2
    refine ⟨p1,12,_,rfl,rfl,g3,by decide,by decide,(by show 1 * 12<=sizeLine; decide),fun p2 hp2=>?_⟩
    have e12:(List.replicate (12:Int).toNat [V.ref tp]).flatten=((List.replicate 12 (⟨tp,true,0,1⟩:Rl)).map fun (r:Rl)=>V.ref r.r):=rfl
    rw [e12]
    have s4:=Same.new (o:=.lst ((List.replicate 12 (⟨tp,true,0,1⟩:Rl)).map fun (r:Rl)=>V.ref r.r)) hp2
    have g4:(upd H3 p2 (.lst ((List.replicate 12 (⟨tp,true,0,1⟩:Rl)).map fun (r:Rl)=>V.ref r.r))) p2=some (.lst ((List.replicate 12 (⟨tp,true,0,1⟩:Rl)).map fun (r:Rl)=>V.ref r.r)):=A6
    replace g2:=s4 _ _ g2
    replace s4:=s3.trans s4
    generalize upd H3 p2 (.lst ((List.replicate 12 (⟨tp,true,0,1⟩:Rl)).map fun (r:Rl)=>V.ref r.r))=H4 at s4 g4 g2
    refine ⟨rl0,p2,_,_,rfl,rfl,s4 _ _ hrl0,g4,Nat.le_of_lt (D4 (by rw [Θl,Θl,List.length_replicate]; omega)),fun p3 hp3=>?_⟩
    rw [<-Zw_]
    have s5:=Same.new (o:=.lst ((rs0++List.replicate 12 (⟨tp,true,0,1⟩:Rl)).map fun (r:Rl)=>V.ref r.r)) hp3
    have g5:(upd H4 p3 (.lst ((rs0++List.replicate 12 (⟨tp,true,0,1⟩:Rl)).map fun (r:Rl)=>V.ref r.r))) p3=some (.lst ((rs0++List.replicate 12 (⟨tp,true,0,1⟩:Rl)).map fun (r:Rl)=>V.ref r.r)):=A6
    replace g2:=s5 _ _ g2
    replace s5:=s4.trans s5
    generalize upd H4 p3 (.lst ((rs0++List.replicate 12 (⟨tp,true,0,1⟩:Rl)).map fun (r:Rl)=>V.ref r.r))=H5 at s5 g5 g2
    refine ⟨((12:Nat):Int),rfl,p3,_,rfl,SqL.of g5,fun p4 hp4=>?_⟩
    rw [Nk]
    have s6:=Same.new (o:=.lst (((rs0++List.replicate 12 (⟨tp,true,0,1⟩:Rl)).take 12).map fun (r:Rl)=>V.ref r.r)) hp4
    show Ends.nx _ _ _
    refine main p4 ((rs0++List.replicate 12 (⟨tp,true,0,1⟩:Rl)).take 12) _ (s1.trans (s5.trans s6)) (fun r hr'=>?_) (fun r hr'=>?_) (by rw [ZB]; omega) (s6 _ _ (s5 _ _ hnl)) A6
    ·rcases Θa (List.mem_of_mem_take hr') with z | z
     ·exact (hR0.same (s5.trans s6)) r z
     ·rw [List.eq_of_mem_replicate z]
      exact ⟨s6 _ _ g2,Nat.two_pow_pos _,by show 1 < 2 ^ nms.length; exact Nat.one_lt_two_pow (by omega)⟩
    ·rcases Θa (List.mem_of_mem_take hr') with z | z
     ·exact hy0 r z
     ·rw [List.eq_of_mem_replicate z]
      show (1:Nat)≠0
      decide
   ·show Ends.nx _ _ _
    exact main rl0 rs0 H1 s1 hR0 hy0 l120 hnl hrl0
  intro rl rs H2 s2 hR hy l12 hnl2 hrl2
  have lr:(rs.map fun (r:Rl)=>V.ref r.r).length=rs.length:=Θl ..
  have hin:∀r∈rs.map Rl.d,InR nms r/\r.2.2≠0:=fun r hr'=>by
   obtain ⟨k,hk,rfl⟩:=Θn hr'
   exact ⟨(hR k hk).2,hy k hk⟩
  have l12d:(rs.map Rl.d).length<=12:=by rw [Θl]; exact l12
  refine ⟨_,rfl,_,rfl,nl,rl,nms,rs,rfl,hnl2,NN,SqL.of hrl2,hR,l12,fun H3 s3=>?_⟩
  refine ⟨_,rfl,fun d1 dx1 hd1 hdx1 ne1=>?_⟩
  refine ⟨d1,dx1,nms,rs.map Rl.d,rfl,A6,NN,NNW,hin,l12d,fun nl1 rl1 ks1 H4 B4 n1 n2 _ _ _ hD1 ek1 hR1 hn1 hr1'=>⟨rfl,?_⟩⟩
  have s4:Same H3 H4:=fun b o e=>B4 b o ((C8 (C4 e hd1)).trans ((C8 (C4 e hdx1)).trans e)) (C4 e hd1)
  replace s4:=(s2.trans s3).trans s4 |> fun z=>(s3.trans s4)
  refine ⟨_,rfl,fun d2 dx2 hd2 hdx2 ne2=>?_⟩
  refine ⟨d2,dx2,nms,rs.map Rl.d,rfl,A6,NN,NNW,hin,l12d,fun nl2 rl2 ks2 H5 B5 m1 m2 _ _ _ hD2 ek2 hR2 hn2 hr2'=>⟨rfl,?_⟩⟩
  have s45:Same H4 H5:=fun b o e=>B5 b o ((C8 (C4 e hd2)).trans ((C8 (C4 e hdx2)).trans e)) (C4 e hd2)
  have s5:=s4.trans s45
  replace hD1:=hD1.same s45
  replace hn1:=s45 _ _ hn1
  replace hr1':=s45 _ _ hr1'
  replace hR1:=hR1.same s45
  have lk1:ks1.length=rs.length:=by
   have:=congrArg List.length ek1
   rwa [Θl,Θl] at this
  have lk2:ks2.length=rs.length:=by
   have:=congrArg List.length ek2
   rwa [Θl,Θl] at this
  refine ⟨_,rfl,(by decide),(by decide),Z3 (n:=16) (fun i σ H'=>(∃v6 v7 v8,σ=[some (.ref a),some (.ref nl),some (.ref rl),some (.str (O4 nms (rs.map Rl.d))),some (.ref d1),some (.ref d2),v6,v7,v8])/\Same H5 H') ⟨⟨_,_,_,rfl⟩,Same.refl _⟩ ?_ ?_⟩
  ·rintro i σ H6 hi ⟨⟨v6,v7,v8,rfl⟩,s6⟩
   have s56:=(s2.trans s5).trans s6
   refine ⟨_,rfl,_,rfl,_,rfl,_,rfl,20,i,rfl,rfl,a,ns,20 + i,rfl,s56.seq hS.sq,by omega,fun c1 hc1=>?_⟩
   refine ⟨nl,rl,nms,rs.map fun (r:Rl)=>V.ref r.r,c1,rfl,SqL.of ((s5.trans s6) _ _ hnl2),NN,l4,SqL.of ((s5.trans s6) _ _ hrl2),by rw [lr]; exact l12,fun t7 v k H7 s7 rv ht7=>?_⟩
   rw [lr] at rv
   refine ⟨t7,_,rfl,SqT.of ht7,rfl,_,_,rfl,_,_,rfl,rfl,?_⟩
   have s67:=s6.trans s7
   refine ⟨_,rfl,_,rfl,_,rfl,d1,nl1,rl1,nms,ks1,v,k,rfl,hD1.same s67,s67 _ _ hn1,NN,s67 _ _ hr1',hR1.same s67,by omega,by rw [lk1]; exact rv,fun H8 s8=>⟨_,rfl,K9 ?_⟩⟩
   have s68:=s67.trans s8
   refine ⟨_,rfl,_,rfl,_,rfl,_,rfl,36,i,rfl,rfl,a,ns,36 + i,rfl,((s2.trans s5).trans s68).seq hS.sq,by omega,fun c3 hc3=>?_⟩
   refine ⟨nl,nms,rs.map Rl.d,c3,rfl,SqL.of ((s5.trans s68) _ _ hnl2),NN,NNW,hin,l12d,fun H9 s9=>⟨_,rfl,K9 ?_⟩⟩
   exact ⟨⟨_,_,_,rfl⟩,s68.trans s9⟩
  rintro σ H6 ⟨⟨v6,v7,v8,rfl⟩,s6⟩
  have dk:∀{d np rl':Addr} {ks:List Rl} {z:Ask} {HH:Hp} {QQ:VK},DeskAt HH CD d np rl'->HH np=some (.lst (nms.map V.str))->HH rl' = some (.lst (ks.map fun (r:Rl)=>V.ref r.r))->RulesAt HH nms.length ks->ks.map Rl.d=rs.map Rl.d->ks.length<=12->Ef nms.length z->Zn z=true->(∀H',Same HH H'->QQ (.str (Kv nms (rs.map Rl.d) z)) H')->Cr K CD (ck .row) (ck .set) (ck .cut) (ck .many) [.ref d,.str (Str.join spaceS (U4 nms z))] HH QQ fun _ _ _=>False:=
   fun {d np rl' ks z HH QQ} h1 h2 h3 h4 h5 h6 h7 h8 h9=>⟨d,np,rl',nms,ks,_,rfl,h1,h2,NN,h3,h4,h6,.inr ⟨_,rfl,Uv NN h7 h8 (by rw [h5]; exact h9)⟩⟩
  obtain ⟨dx1',hd1'⟩:=hD1.same s6
  refine ⟨_,rfl,d1,dx1',_,rfl,hd1',rfl,?_⟩
  unfold Abn
  refine dk (z:=.show) ⟨dx1',hd1'⟩ (s6 _ _ hn1) (s6 _ _ hr1') (hR1.same s6) ek1 (by omega) trivial rfl fun H7 s7=>?_
  refine ⟨_,rfl,rfl,_,rfl,?_⟩
  rw [show (!decide (V.str (Kv nms (rs.map Rl.d) .show)=V.str (O4 nms (rs.map Rl.d))))=false by rw [Zr_ (show V.str (Kv nms (rs.map Rl.d) .show)=V.str (O4 nms (rs.map Rl.d)) from rfl)]; rfl]
  refine K9 ?_
  have s67:=s6.trans s7
  have n0l:∀i,i < nms.length->(nms.getD i noS).length<=8:=fun i hi=>NN.len _ (G1 hi).1
  have z0:=n0l 0 (by omega)
  have zl:=n0l (nms.length - 1) (by omega)
  have sz:=sizeLine_eq
  have hnl7:=(s5.trans s67) _ _ hnl2
  have ega:(nms.map V.str)[0]? = some (V.str (nms.getD 0 noS)):=by rw [Θg,(G1 (show 0 < nms.length by omega)).2]; rfl
  have egl:atI (nms.map V.str) (-1)=some (V.str (nms.getD (nms.length - 1) noS)):=Aaf (by omega)
  refine ⟨_,rfl,_,rfl,nl,_,_,_,rfl,rfl,SqL.of hnl7,egl,_,nms.getD (nms.length - 1) noS,rfl,rfl,(by show 17 + (nms.getD (nms.length - 1) noS).length<=sizeLine; omega),_,rfl,nl,_,_,_,rfl,rfl,SqL.of hnl7,B9 (j:=0) (v:=V.str (nms.getD 0 noS)) ega,_,nms.getD 0 noS,rfl,rfl,(by show 8 + (nms.getD 0 noS).length<=sizeLine; omega),_,_,rfl,rfl,(by rw [Str.length_append]; show 8 + (nms.getD 0 noS).length + 6<=sizeLine; omega),_,rfl,_,rfl,nl,_,_,_,rfl,rfl,SqL.of hnl7,egl,_,nms.getD (nms.length - 1) noS,rfl,rfl,(by rw [Str.length_append,Str.length_append]; show 8 + (nms.getD 0 noS).length + 6 + (nms.getD (nms.length - 1) noS).length<=sizeLine; omega),(by show 4<=sizeLine; decide),fun lq hlq=>?_⟩
  have s8:=Same.new (o:=.lst (Ey nms)) hlq
  have g8:(upd H7 lq (.lst (Ey nms))) lq=some (.lst (Ey nms)):=A6
  refine ⟨lq,rfl,⟨_,SqL.of g8⟩,P3 (K:=K) (xs:=Ey nms) (fun i σ H'=>(∃v6 v7 v8,σ=[some (.ref a),some (.ref nl),some (.ref rl),some (.str (O4 nms (rs.map Rl.d))),some (.ref d1),some (.ref d2),v6,v7,v8])/\Same (upd H7 lq (.lst (Ey nms))) H') ⟨⟨_,_,_,rfl⟩,Same.refl _⟩ (fun i σ H' _ h=>SqL.of (h.2 _ _ g8)) ?_ ?_⟩
  ·rintro i v σ H9 hv ⟨⟨w6,w7,w8,rfl⟩,s9⟩
   obtain ⟨z,az,pz,rfl⟩:=Vz NN v (Θe hv)
   have sA:=(s67.trans s8).trans s9
   obtain ⟨dxa,hda⟩:=hD1.same sA
   refine ⟨_,rfl,d1,dxa,_,rfl,hda,rfl,_,rfl,?_⟩
   refine dk ⟨dxa,hda⟩ (sA _ _ hn1) (sA _ _ hr1') (hR1.same sA) ek1 (by omega) az pz fun Ha sa=>?_
   have sB:=sA.trans sa
   obtain ⟨dxb,hdb⟩:=hD2.same sB
   refine ⟨_,rfl,d2,dxb,_,rfl,hdb,rfl,_,rfl,?_⟩
   refine dk ⟨dxb,hdb⟩ (sB _ _ hn2) (sB _ _ hr2') (hR2.same sB) ek2 (by omega) az pz fun Hb sb=>?_
   refine ⟨rfl,_,rfl,?_⟩
   rw [show (!decide (V.str (Kv nms (rs.map Rl.d) z)=V.str (Kv nms (rs.map Rl.d) z)))=false by rw [Zr_ rfl]; rfl]
   exact K9 ⟨⟨_,_,_,rfl⟩,s9.trans (sa.trans sb)⟩
  ·rintro σ H9 ⟨_,s9⟩
   exact q _
end
end Own
namespace Own
open PySem L2
section
variable {P:Program} {w:World} {K:Θf} {mg:Str->Option Value} {base:Heap}
seal PySem.wpAny
noncomputable abbrev Kb:Stmt:=top 83
theorem scCellAt:FnScope ["_law_script","_law_k","_law_number"] ["_law_script","_law_k"] (B6 Kb):=⟨rfl,rfl,rfl,by decide +kernel,rfl,by decide +kernel,by decide +kernel⟩
theorem Tf {f:Addr} {fd:FuncData} (F:Fun K "_law_cell_at" "_law_cell_at" Kb f fd) (zlen:mg "len" = none):FnOk P w K mg base CX0 1 f fd ["_law_script","_law_k"] (Rg K):=by
 refine F.ok scCellAt (fun vs H Q E h=>?_) (fun cdv A outer s H vs Q E hr h=>?_)
 ·obtain ⟨sc,ns,k,rfl,_⟩:=h
  rfl
 ·obtain ⟨sc,ns,k,rfl,hS,hk,q⟩:=h
  have nd:=scCellAt.nd
  have kk:k * k<=1000 * 1000:=Nat.mul_le_mul hk hk
  have p0:(0:Int) < 2147483629:=by decide
  refine ⟨_,(A8 (E3 (C5 Jt (pv 1) (D7 (E4 (K:=K) rfl) (by rfl) zlen PySem.boot_len (A0 (pv 0) A7)) (D0 _)) (B0 (C2 (B8 op_mod (C7 (C6 (K:=K) rfl) (pv 0) (pv 1) (fun _ _=>rfl)) A9))) C9)
   (A8 (C3 (i:=2) nd rfl (Or.inl rfl) (B8 G8 (B8 U9 (B8 U9 (pv 1) (pv 1)) A9) A9))
   (A8 (E3 (C5 Ci (D7 (E4 (K:=K) rfl) (by rfl) zlen PySem.boot_len (A0 (pv 0) A7)) A9 (D0 _)) (B0 (C3 (i:=2) nd rfl (Or.inl rfl) (B8 G8 (pv 2) (B8 U9 (B8 op_mod (C7 (C6 (K:=K) rfl) (pv 0) (B8 D9 (pv 1) (D7 (E4 (K:=K) rfl) (by rfl) zlen PySem.boot_len (A0 (pv 0) A7))) (fun _ _=>rfl)) A9) A9)))) C9)
   (B0 (C2 (B8 D9 (B8 U9 (pv 2) (pv 2)) A9)))))),?_⟩
  have len1:(ns.map V.int).length=ns.length:=Θl ..
  refine ⟨_,rfl,_,rfl,sc,_,rfl,.inl hS,k,_,rfl,rfl,_,rfl,?_⟩
  refine F7 (fun hc=>?_) (fun hc=>?_)
  ·have hlt:k < ns.length:=by
    have:=Zj_ hc
    rwa [len1] at this
   refine ⟨_,rfl,_,rfl,sc,_,_,_,rfl,rfl,hS,B9 (j:=k) (v:=V.int ns[k]) (by simp [hlt]),_,_,rfl,rfl,p0,?_⟩
   obtain ⟨c,e,lt⟩:=Wm (n:=2147483629) (Wi ns[k] p0) (Wh ns[k] p0)
   show Q (V.int (ns[k] % 2147483629)) H
   have ec:=Kz hlt e
   have en:An ns k=c:=by unfold An; rw [if_pos hlt]; exact ec
   rw [e]
   rw [en] at q
   exact q
  ·have hge:¬k < ns.length:=fun z=>hc (Zr_ (by rw [len1]; exact z))
   refine ⟨_,rfl,_,rfl,k,k,rfl,rfl,by omega,k * k,48271,rfl,rfl,by omega,k * k * 48271,11,rfl,rfl,?_⟩
   refine ⟨_,rfl,sc,_,rfl,.inl hS,_,0,rfl,rfl,_,rfl,?_⟩
   refine F7 (fun hc2=>?_) (fun hc2=>?_)
   ·have hpos:0 < ns.length:=by
     have:=Zj_ hc2
     rwa [len1] at this
    have hj:k % (ns.map V.int).length < ns.length:=by rw [len1]; exact Nat.mod_lt _ hpos
    obtain ⟨c,e,lt⟩:=Wm (n:=2147483629) (Wi ns[k % (ns.map V.int).length] p0) (Wh ns[k % (ns.map V.int).length] p0)
    refine ⟨_,rfl,_,rfl,_,rfl,_,rfl,sc,_,rfl,.inl hS,k,(ns.map V.int).length,rfl,rfl,by rw [len1]; exact hpos,sc,_,_,_,rfl,rfl,hS,B9 (j:=k % (ns.map V.int).length) (v:=V.int ns[k % (ns.map V.int).length]) (by rw [Θg,Θh hj]; rfl),_,_,rfl,rfl,p0,c,69621,congrArg V.int e,rfl,by omega,k * k * 48271 + 11,c * 69621,rfl,rfl,?_⟩
    refine ⟨_,rfl,_,rfl,k * k * 48271 + 11 + c * 69621,k * k * 48271 + 11 + c * 69621,rfl,rfl,by omega,_,2147483629,rfl,rfl,(by show 0 < 2147483629; decide),?_⟩
    have en:An ns k=(k * k * 48271 + 11 + c * 69621) * (k * k * 48271 + 11 + c * 69621) % 2147483629:=by
     unfold An
     rw [if_neg hge,if_pos hpos]
     have ec:Em ns (k % ns.length)=c:=by
      have hj':=hj
      have e':=e
      simp only [len1] at hj' e'
      exact Kz hj' e'
     rw [ec]
    rw [en] at q
    exact q
   ·refine ⟨_,rfl,_,rfl,k * k * 48271 + 11,k * k * 48271 + 11,rfl,rfl,by omega,_,2147483629,rfl,rfl,(by show 0 < 2147483629; decide),?_⟩
    have hz:¬0 < ns.length:=fun z=>hc2 (Zr_ (by rw [len1]; exact z))
    have en:An ns k=(k * k * 48271 + 11) * (k * k * 48271 + 11) % 2147483629:=by
     unfold An
     rw [if_neg hge,if_neg hz]
    rw [en] at q
    exact q
noncomputable abbrev Fm:Stmt:=top 84
theorem scNames:FnScope ["_law_cell","_law_count","_law_letters","_law_names_here","_law_text_here","_law_k","_law_size","_law_at","_law_signs"] ["_law_cell","_law_count"] (B6 Fm):=⟨rfl,rfl,rfl,by decide +kernel,rfl,by decide +kernel,by decide +kernel⟩
theorem Xc {f:Addr} {fd:FuncData} (F:Fun K "_law_names" "_law_names" Fm f fd) (zrange:mg "range" = none):FnOk P w K mg base CX0 1 f fd ["_law_cell","_law_count"] Ig:=by
 refine F.ok scNames (fun vs H Q E h=>?_) (fun cdv A outer s H vs Q E hr h=>?_)
 ·obtain ⟨c,n,rfl,_⟩:=h
  rfl
 ·obtain ⟨c,n,rfl,n1,n7,q⟩:=h
  have nd:=scNames.nd
  refine ⟨_,(A8 (C3 (i:=2) nd rfl (Or.inr rfl) B7)
   (A8 (C3 (i:=3) nd rfl (Or.inl rfl) (D8 A7))
   (A8 (E3 (C5 N6 (B8 D9 (pv 0) A9) A9 (D0 _)) (A8 (C3 (i:=4) nd rfl (Or.inl rfl) (G5 PySem.F.plainAttrs_str PySem.F.slot_str_join PySem.F.type_str_join L1 B7 (A0 (G9 (xs:=["_law_j"]) (cs ["_law_cell","_law_count","_law_letters","_law_names_here","_law_text_here","_law_k","_law_size","_law_at","_law_signs"] (B6 Fm) rfl rfl (by decide +kernel)) rfl (M6 rfl zrange (A0 A9 A7)) (fun _ _ _=>D3 (i:=0) (show (["_law_j","_law_cell","_law_count","_law_letters","_law_names_here","_law_text_here","_law_k","_law_size","_law_at","_law_signs"]:List Str).Nodup by decide +kernel) rfl (Or.inl rfl)) (fun _ _ _=>K7) (fun _ _ _=>(C7 Nt (pv 3) (B8 D9 (B8 G8 (B8 E5 (pv 1) A9) (B8 U9 A9 (pv 0))) A9) (fun _ _=>rfl)))) A7)))
   (A8 (L7 PassesOwn.never rfl (M6 rfl zrange (A0 (pv 1) A7)) (D3 (i:=5) nd rfl (Or.inl rfl)) (B0 (P0 (G5 PySem.F.plainAttrs_list PySem.F.slot_list_append PySem.F.type_list_append Q8 (pv 3) (A0 (I0 Ad0 (pv 4) (K6 (B8 D9 (pv 5) A9)) (K6 (B8 G8 (B8 G8 (B8 D9 (pv 5) A9) A9) (B8 E5 (pv 5) A9)))) A7)))))
   (B0 (C2 (pv 3))))) C9)
   (A8 (C3 (i:=6) nd rfl (Or.inl rfl) (C7 (C6 (K:=K) rfl) (D8 (G2 A9 (G2 A9 (G2 A9 (G2 A9 (G2 A9 (G2 A9 A7))))))) (B8 D9 (B8 E5 (pv 0) A9) A9) (fun _ _=>rfl)))
   (A8 (C3 (i:=7) nd rfl (Or.inl rfl) (B8 D9 (B8 E5 (pv 0) A9) (pv 6)))
   (A8 (L7 PassesOwn.never rfl (M6 rfl zrange (A0 (pv 1) A7)) (D3 (i:=5) nd rfl (Or.inl rfl)) (A8 (Jx (i:=8) (xs:=["_law_j"]) (cs ["_law_cell","_law_count","_law_letters","_law_names_here","_law_text_here","_law_k","_law_size","_law_at","_law_signs"] (B6 Fm) rfl rfl (by decide +kernel)) rfl nd rfl rfl (M6 rfl zrange (A0 (pv 6) A7)) (fun _ _ _=>D3 (i:=0) (show (["_law_j","_law_cell","_law_count","_law_letters","_law_names_here","_law_text_here","_law_k","_law_size","_law_at","_law_signs"]:List Str).Nodup by decide +kernel) rfl (Or.inl rfl)) (fun _ _ _=>K7) (fun _ _ _=>(C7 Nt (pv 3) (B8 D9 (B8 G8 (B8 E5 (pv 1) (B8 G8 (pv 0) A9)) (B8 U9 (pv 0) (pv 0))) A9) (fun _ _=>rfl))))
   (A8 (Jw (C7 Nt (pv 2) (B8 D9 (B8 G8 (B8 E5 (pv 0) A9) (pv 5)) A9) (fun _ _=>rfl)) (Xq (pv 8) (pv 7) Mn))
   (B0 (P0 (G5 PySem.F.plainAttrs_list PySem.F.slot_list_append PySem.F.type_list_append Q8 (pv 3) (A0 (G5 PySem.F.plainAttrs_str PySem.F.slot_str_join PySem.F.type_str_join L1 B7 (A0 (pv 8) A7)) A7)))))))
   (B0 (C2 (pv 3))))))))),?_⟩
  refine ⟨(by show 0<=sizeLine; decide),fun nl hnl=>?_⟩
  have s1:=Same.new (o:=.lst []) hnl
  have h1:(upd H nl (.lst [])) nl=some (.lst []):=A6
  generalize upd H nl (.lst [])=H1 at s1 h1
  refine ⟨_,rfl,c,2,rfl,rfl,(by show 0 < 2; decide),c % 2,1,rfl,rfl,_,rfl,F7 (fun hc=>?_) (fun hc=>?_)⟩
  ·have hr26:c / 2 % 26 < 26:=Nat.mod_lt _ (by decide)
   have er:∀i,(c / 2 + 3 * i) % 26=(c / 2 % 26 + 3 * i) % 26:=fun i=>by omega
   generalize c / 2 % 26=r at hr26 er
   refine ⟨rfl,8,rfl,by decide,by decide,T6 (k:=8) (fun i acc H'=>H' = H1/\acc=(((Bd r).take i).map sng).map V.str) (by decide) ⟨rfl,rfl⟩ (fun i acc H' hi h=>?_) (fun i acc H' hi h=>?_) (fun acc H' h=>?_)⟩
   ·obtain ⟨rfl,rfl⟩:=h
    rw [Θl,Θl]
    exact List.length_take_le _ _
   ·obtain ⟨rfl,rfl⟩:=h
    refine ⟨rfl,_,rfl,_,rfl,c,2,rfl,rfl,⟨by decide,by decide⟩,_,rfl,3,i,rfl,rfl,(by show 3 < 2 ^ 64; decide),c / 2,3 * i,rfl,rfl,c / 2 + 3 * i,26,rfl,rfl,(by show 0 < 26; decide),letS,_,_,rfl,rfl,Ez,B9 (Nw _ (Nat.mod_lt _ (by decide))),rfl,?_⟩
    rw [List.take_succ,Aak hi,er,Zw_,Zw_]
    rfl
   obtain ⟨rfl,rfl⟩:=h
   intro jl hjl
   have s2:=s1.trans (Same.new (o:=.lst ((((Bd r).take 8).map sng).map V.str)) hjl)
   have hj:(upd H' jl (.lst ((((Bd r).take 8).map sng).map V.str))) jl=some (.lst (((Bd r).map sng).map V.str)):=by rw [A6]; rfl
   have h2:=(Same.new (o:=.lst ((((Bd r).take 8).map sng).map V.str)) hjl) _ _ h1
   generalize upd H' jl (.lst ((((Bd r).take 8).map sng).map V.str))=H2 at s2 hj h2
   refine ⟨noS,jl,(Bd r).map sng,rfl,rfl,SqL.of hj,Ys _ (by unfold Bd; rw [Θl,List.length_range]; decide),?_⟩
   have e:Txt.join noS ((Bd r).map sng)=Tb r:=by rw [L0]; exact Ew _
   rw [e]
   have lo:(Tb r).length=8:=by show (Bd r).toArray.size=8; unfold Bd; rw [List.size_toArray,Θl,List.length_range]
   refine ⟨_,rfl,(n:Int),rfl,by omega,by omega,Z3 (n:=n) (fun i σ H'=>(∃v5,σ=[some (vN c),some (vN n),some (.str letS),some (.ref nl),some (.str (Tb r)),v5,none,none,none])/\Same H H'/\H' nl=some (.lst ((Gi r i).map V.str))) ⟨⟨_,rfl⟩,s2,h2⟩ ?_ ?_⟩
   ·rintro i σ H' hi ⟨⟨v5,rfl⟩,s3,h3⟩
    refine ⟨_,rfl,.inl ⟨rfl,_,SqL.of h3⟩,_,rfl,_,rfl,i,5,rfl,rfl,(by show 0 < 5; decide),_,rfl,_,rfl,i,5,rfl,rfl,(by show 0 < 5; decide),i % 5,1,rfl,rfl,_,rfl,i,5,rfl,rfl,⟨by decide,by decide⟩,i % 5 + 1,i / 5,rfl,rfl,_,rfl,Tb r,rfl,by omega,nl,_,_,rfl,rfl,h3,D4 (by unfold Gi; rw [Θl,Θl,List.length_range]; omega),?_⟩
    refine ⟨⟨_,rfl⟩,s3.over hnl,?_⟩
    rw [A6,Ta,Zw_]
    rfl
   ·rintro σ H' ⟨⟨v5,rfl⟩,s3,h3⟩
    exact ⟨_,rfl,q (Gi r n) nl H' (Acb (Act r hr26 n (by omega) n1)) (Acu hr26 n7) (by unfold Gi; rw [Θl,List.length_range]) s3 hnl h3⟩
  ·obtain ⟨z,ez,z1,z8,z4,z6⟩:=Abj (c / 2 % 6) (Nat.mod_lt _ (by decide))
   refine ⟨(by show 6<=sizeLine; decide),fun g hg=>?_⟩
   have s2:=s1.trans (Same.new (o:=.lst [V.int 1,V.int 2,V.int 3,V.int 5,V.int 7,V.int 8]) hg)
   have hg2:(upd H1 g (.lst [V.int 1,V.int 2,V.int 3,V.int 5,V.int 7,V.int 8])) g=some (.lst [V.int 1,V.int 2,V.int 3,V.int 5,V.int 7,V.int 8]):=A6
   have h2:=(Same.new (o:=.lst [V.int 1,V.int 2,V.int 3,V.int 5,V.int 7,V.int 8]) hg) _ _ h1
   generalize upd H1 g (.lst [V.int 1,V.int 2,V.int 3,V.int 5,V.int 7,V.int 8])=H2 at s2 hg2 h2
   refine ⟨_,rfl,c,2,rfl,rfl,⟨by decide,by decide⟩,c / 2,6,rfl,rfl,(by show 0 < 6; decide),g,_,_,_,rfl,rfl,SqL.of hg2,B9 ez,?_⟩
   refine ⟨_,rfl,c,12,rfl,rfl,⟨by decide,by decide⟩,_,rfl,c / 12,z,rfl,rfl,z1,?_⟩
   have hat:c / 12 % z < z:=Nat.mod_lt _ z1
   dsimp (config:={ proj:=false,iota:=false }) only
   generalize c / 12 % z=at_ at hat
   refine ⟨_,rfl,(n:Int),rfl,by omega,by omega,Z3 (n:=n) (fun i σ H'=>(∃v5 v8,σ=[some (vN c),some (vN n),some (.str letS),some (.ref nl),none,v5,some (vN z),some (vN at_),v8])/\Same H H'/\H' nl=some (.lst ((evN c z at_ i).map V.str))) ⟨⟨_,_,rfl⟩,s2,h2⟩ ?_ ?_⟩
   ·rintro i σ H' hi ⟨⟨v5,v8,rfl⟩,s3,h3⟩
    refine ⟨_,rfl,(z:Int),rfl,by omega,by omega,T6 (k:=z) (fun j acc H4=>H4=H'/\acc=(((evB c z).take j).map sng).map V.str) (by omega) ⟨rfl,rfl⟩ (fun j acc H4 hj h=>?_) (fun j acc H4 hj h=>?_) (fun acc H4 h=>?_)⟩
    ·obtain ⟨rfl,rfl⟩:=h
     rw [Θl,Θl]
     exact List.length_take_le _ _
    ·obtain ⟨rfl,rfl⟩:=h
     refine ⟨rfl,_,rfl,_,rfl,_,rfl,j,1,rfl,rfl,c,j + 1,rfl,rfl,⟨by omega,by omega⟩,_,rfl,_,rfl,j,j,rfl,rfl,(by show j < 2 ^ 64; omega),c / (j + 1),j * j,rfl,rfl,c / (j + 1) + j * j,26,rfl,rfl,(by show 0 < 26; decide),letS,_,_,rfl,rfl,Ez,B9 (Nw _ (Nat.mod_lt _ (by decide))),rfl,?_⟩
     rw [List.take_succ,Acg hj,Zw_,Zw_]
     rfl
    obtain ⟨rfl,rfl⟩:=h
    intro sl hsl
    have lb:(evB c z).length=z:=by unfold evB; rw [Θl,List.length_range]
    have tk:(evB c z).take z=evB c z:=List.take_of_length_le (by omega)
    rw [tk]
    have s4:=Same.new (o:=.lst (((evB c z).map sng).map V.str)) hsl
    have hs4:(upd H4 sl (.lst (((evB c z).map sng).map V.str))) sl=some (.lst (((evB c z).map sng).map V.str)):=A6
    have h4:=s4 _ _ h3
    have nsl:H sl=none:=s3.none hsl
    have nns:nl≠sl:=C4 h3 hsl
    have s5:=s3.trans s4
    generalize upd H4 sl (.lst (((evB c z).map sng).map V.str))=H5 at s5 hs4 h4
    refine ⟨_,rfl,_,rfl,c,96,rfl,rfl,⟨by decide,by decide⟩,_,rfl,c / 96,i,rfl,rfl,c / 96 + i,26,rfl,rfl,(by show 0 < 26; decide),letS,_,_,rfl,rfl,Ez,B9 (Nw _ (Nat.mod_lt _ (by decide))),_,rfl,_,rfl,sl,_,_,at_,rfl,rfl,hs4,Aab (by rw [Θl,Θl,lb]; exact hat),?_⟩
    have ee:(((evB c z).map sng).map V.str).set at_ (V.str ⟨#[97 + (c / 96 + i) % 26]⟩)=((evL c z at_ i).map sng).map V.str:=by
     unfold evL
     rw [List.map_set,List.map_set]; rfl
    rw [ee]
    have s6:=s5.over (o:=.lst (((evL c z at_ i).map sng).map V.str)) nsl
    have hs6:(upd H5 sl (.lst (((evL c z at_ i).map sng).map V.str))) sl=some (.lst (((evL c z at_ i).map sng).map V.str)):=A6
    have h6:(upd H5 sl (.lst (((evL c z at_ i).map sng).map V.str))) nl=some (.lst ((evN c z at_ i).map V.str)):=by rw [C8 nns]; exact h4
    generalize upd H5 sl (.lst (((evL c z at_ i).map sng).map V.str))=H6 at s6 hs6 h6
    refine ⟨_,rfl,.inl ⟨rfl,_,SqL.of h6⟩,rfl,_,rfl,noS,sl,(evL c z at_ i).map sng,rfl,rfl,SqL.of hs6,Ys _ (by rw [Jc]; omega),?_⟩
    have e:Txt.join noS ((evL c z at_ i).map sng)=evS c z at_ i:=by rw [L0]; exact Ew _
    rw [e]
    refine ⟨nl,_,_,rfl,rfl,h6,D4 (by unfold evN; rw [Θl,Θl,List.length_range]; omega),?_⟩
    refine ⟨⟨_,_,rfl⟩,s6.over hnl,?_⟩
    rw [A6,Vk,Zw_]
    rfl
   ·rintro σ H' ⟨⟨v5,v8,rfl⟩,s3,h3⟩
    exact ⟨_,rfl,q (evN c z at_ n) nl H' (Aei hat z8 n1 n7) (Aej z4 z6) (by unfold evN; rw [Θl,List.length_range]) s3 hnl h3⟩
noncomputable abbrev Kg:Stmt:=top 85
theorem scMkRule:FnScope ["_law_cell","_law_many","_law_full","_law_left","_law_right"] ["_law_cell","_law_many"] (B6 Kg):=⟨rfl,rfl,rfl,by decide +kernel,rfl,by decide +kernel,by decide +kernel⟩
theorem Tk {f:Addr} {fd:FuncData} (F:Fun K "_law_rule" "_law_rule" Kg f fd):FnOk P w K mg base CX0 1 f fd ["_law_cell","_law_many"] Mt:=by
 refine F.ok scMkRule (fun vs H Q E h=>?_) (fun cdv A outer s H vs Q E hr h=>?_)
 ·obtain ⟨c,m,rfl,_⟩:=h
  rfl
 ·obtain ⟨c,m,rfl,hc,m1,m7,q⟩:=h
  have nd:=scMkRule.nd
  have pw0:0 < 2 ^ m:=Nat.two_pow_pos m
  refine ⟨_,(A8 (C3 (i:=2) nd rfl (Or.inl rfl) (B8 O9 A9 (pv 1))) (A8 (C3 (i:=3) nd rfl (Or.inl rfl) (B8 D9 (B8 E5 (pv 0) A9) (pv 2))) (Jy (fun σ H'=>H' = H/\∃l,l < 2 ^ m/\σ=[some (vN c),some (vN m),some (vN (2 ^ m)),some (vN l),none]) (E3 (C5 Ci (B8 D9 (B8 E5 (pv 0) A9) A9) A9 (D0 _)) (B0 (C3 (i:=3) nd rfl (Or.inl rfl) (B8 S3 (pv 3) (B8 D9 (B8 E5 (pv 0) A9) (pv 2))))) C9) (A8 (C3 (i:=4) nd rfl (Or.inl rfl) (B8 D9 (B8 E5 (pv 0) A9) (pv 2))) (Jy (fun σ H'=>H' = H/\∃l r,l < 2 ^ m/\r < 2 ^ m/\σ=[some (vN c),some (vN m),some (vN (2 ^ m)),some (vN l),some (vN r)]) (E3 (C5 N6 (B8 D9 (B8 E5 (pv 0) A9) A9) A9 (D0 _)) (B0 (C3 (i:=4) nd rfl (Or.inl rfl) (B8 S3 (pv 4) (B8 D9 (B8 D9 (B8 U9 (pv 0) A9) A9) (pv 2))))) C9) (B0 (C2 (G3 (A0 (C7 (C6 (K:=K) rfl) (D8 (A0 B7 (A0 B7 (A0 B7 A7)))) (B8 D9 (pv 0) A9) (fun _ _=>rfl)) (A0 (pv 3) (A0 (pv 4) A7))))))))))),?_⟩
  refine ⟨_,rfl,m,rfl,rfl,by omega,?_⟩
  refine ⟨_,rfl,c,3,rfl,rfl,⟨by decide,by decide⟩,_,rfl,c / 3,2 ^ m,rfl,rfl,pw0,?_⟩
  refine ⟨⟨_,rfl,c,384,rfl,rfl,⟨by decide,by decide⟩,c / 384,4,rfl,rfl,(by show 0 < 4; decide),_,0,rfl,rfl,_,rfl,F7 (fun _=>?_) (fun _=>?_)⟩,?_⟩
  ·refine ⟨_,rfl,_,rfl,c,1536,rfl,rfl,⟨by decide,by decide⟩,_,rfl,c / 1536,2 ^ m,rfl,rfl,pw0,c / 3 % 2 ^ m,_,rfl,rfl,?_⟩
   exact ⟨rfl,_,Nat.lt_of_le_of_lt Nat.and_le_left (Nat.mod_lt _ pw0),rfl⟩
  ·exact ⟨rfl,_,Nat.mod_lt _ pw0,rfl⟩
  rintro _ _ ⟨rfl,l,hl,rfl⟩
  refine ⟨_,rfl,c,196608,rfl,rfl,⟨by decide,by decide⟩,_,rfl,c / 196608,2 ^ m,rfl,rfl,pw0,?_⟩
  refine ⟨⟨_,rfl,c,25165824,rfl,rfl,⟨by decide,by decide⟩,c / 25165824,3,rfl,rfl,(by show 0 < 3; decide),_,1,rfl,rfl,_,rfl,F7 (fun _=>?_) (fun _=>?_)⟩,?_⟩
  ·refine ⟨_,rfl,_,rfl,c,16807,rfl,rfl,by omega,c * 16807,65537,rfl,rfl,(by show 0 < 65537; decide),_,rfl,c * 16807 % 65537,2 ^ m,rfl,rfl,pw0,c / 196608 % 2 ^ m,_,rfl,rfl,?_⟩
   exact ⟨rfl,_,_,hl,Nat.lt_of_le_of_lt Nat.and_le_left (Nat.mod_lt _ pw0),rfl⟩
  ·exact ⟨rfl,_,_,hl,Nat.mod_lt _ pw0,rfl⟩
  rintro _ _ ⟨rfl,l,r,hl,hr',rfl⟩
  refine ⟨(by show 3<=sizeLine; decide),fun g hg=>?_⟩
  obtain ⟨sb,esb⟩:∃sb:Bool,([V.str "settle",V.str "settle",V.str "deal"]:List V)[c % 3]? = some (V.str (D6 sb)):=by
   have h3:c % 3 < 3:=Nat.mod_lt _ (by decide)
   match c % 3,h3 with
   | 0,_=>exact ⟨true,rfl⟩
   | 1,_=>exact ⟨true,rfl⟩
   | 2,_=>exact ⟨false,rfl⟩
  refine ⟨_,rfl,c,3,rfl,rfl,(by show 0 < 3; decide),g,_,_,_,rfl,rfl,SqL.of A6,B9 esb,_,rfl,_,rfl,(by show 3<=sizeLine; decide),fun t ht=>?_⟩
  have s1:=Same.new (o:=.lst [V.str "settle",V.str "settle",V.str "deal"]) hg
  have s2:=Same.new (o:=.tup [V.str (D6 sb),vN l,vN r]) ht
  refine q sb l r t _ hl hr' (s1.trans s2) ?_ A6
  by_cases e:t=g
  ·rw [e]; exact hg
  ·rw [C8 e] at ht; exact ht
section
noncomputable abbrev Eb:Stmt:=top 86
theorem scLRules:FnScope ["_law_script","_law_many","_law_count"] ["_law_script","_law_many"] (B6 Eb):=⟨rfl,rfl,rfl,by decide +kernel,rfl,by decide +kernel,by decide +kernel⟩
theorem Tj {f fCA fRU:Addr} {fd fdCA fdRU:FuncData} (F:Fun K "_law_rules" "_law_rules" Eb f fd) (GCA:FnOk P w K mg base CX0 1 fCA fdCA ["_law_script","_law_k"] (Bp K)) (mCA:mg "_law_cell_at" = some (.ref fCA)) (kCA:Θk K fCA) (bCA:Binds K fdCA ["_law_script","_law_k"] []) (GRU:FnOk P w K mg base CX0 1 fRU fdRU ["_law_cell","_law_many"] Mt) (mRU:mg "_law_rule" = some (.ref fRU)) (kRU:Θk K fRU) (bRU:Binds K fdRU ["_law_cell","_law_many"] []) (zrange:mg "range" = none):FnOk P w K mg base CX0 2 f fd ["_law_script","_law_many"] (Mr K):=by
 refine F.ok scLRules (fun vs H Q E h=>?_) (fun cdv A outer s H vs Q E hr h=>?_)
 ·obtain ⟨sc,ns,m,rfl,_⟩:=h
  rfl
 ·obtain ⟨sc,ns,m,rfl,hS,m1,m7,q⟩:=h
  have nd:=scLRules.nd
  have hr1:Room 1 _:=hr.mono (by decide)
  refine ⟨_,(A8 (C3 (i:=2) nd rfl (Or.inl rfl) (C7 (C6 (K:=K) rfl) (D8 (G2 A9 (G2 A9 (G2 A9 (G2 A9 (G2 A9 (G2 A9 (G2 A9 (G2 A9 (G2 A9 A7)))))))))) (B8 D9 (C0 GCA hr1 rfl mCA kCA bCA .nil D1 (A0 (pv 0) (A0 A9 A7))) A9) (fun _ _=>rfl)))
   (B0 (C2 (G9 (xs:=["_law_k"]) (cs ["_law_script","_law_many","_law_count"] (B6 Eb) rfl rfl (by decide +kernel)) rfl (M6 rfl zrange (A0 (pv 2) A7)) (fun _ _ _=>D3 (i:=0) (show (["_law_k","_law_script","_law_many","_law_count"]:List Str).Nodup by decide +kernel) rfl (Or.inl rfl)) (fun _ _ _=>K7) (fun _ _ _=>(C0 GRU hr1 rfl mRU kRU bRU .nil D1 (A0 (C0 GCA hr1 rfl mCA kCA bCA .nil D1 (A0 (pv 1) (A0 (B8 G8 A9 (pv 0)) A7))) (A0 (pv 2) A7)))))))),?_⟩
  refine ⟨(by show 9<=sizeLine; decide),fun g hg=>?_⟩
  have s1:=Same.new (o:=.lst [vN 3,vN 4,vN 5,vN 6,vN 8,vN 2,vN 1,vN 0,vN 12]) hg
  refine ⟨_,rfl,sc,ns,1,rfl,s1.seq hS,by omega,fun c hc=>?_⟩
  obtain ⟨n,en,hn⟩:∃n:Nat,([vN 3,vN 4,vN 5,vN 6,vN 8,vN 2,vN 1,vN 0,vN 12]:List V)[c % 9]? = some (vN n)/\n<=12:=by
   have h9:c % 9 < 9:=Nat.mod_lt _ (by decide)
   match c % 9,h9 with
   | 0,_=>exact ⟨3,rfl,by decide⟩
   | 1,_=>exact ⟨4,rfl,by decide⟩
   | 2,_=>exact ⟨5,rfl,by decide⟩
   | 3,_=>exact ⟨6,rfl,by decide⟩
   | 4,_=>exact ⟨8,rfl,by decide⟩
   | 5,_=>exact ⟨2,rfl,by decide⟩
   | 6,_=>exact ⟨1,rfl,by decide⟩
   | 7,_=>exact ⟨0,rfl,by decide⟩
   | 8,_=>exact ⟨12,rfl,by decide⟩
  refine ⟨c,9,rfl,rfl,(by show 0 < 9; decide),g,_,_,_,rfl,rfl,SqL.of A6,B9 en,?_⟩
  refine ⟨_,rfl,(n:Int),rfl,by omega,by omega,T6 (k:=n) (n:=1) (fun i acc H'=>∃rs:List Rl,acc=(rs.map fun r=>V.ref r.r)/\rs.length=i/\RulesAt H' m rs/\Same H H') (by omega) ⟨[],rfl,rfl,(fun r h=>absurd h Zi_),s1⟩ (fun i acc H' hi h=>?_) (fun i acc H' hi h=>?_) (fun acc H' h=>?_)⟩
  ·obtain ⟨rs,rfl,e,_⟩:=h
   rw [Θl,e]; exact Zd_ _
  ·obtain ⟨rs,rfl,e,hRs,s'⟩:=h
   refine ⟨rfl,_,rfl,_,rfl,4,i,rfl,rfl,sc,ns,4 + i,rfl,s'.seq hS,by omega,fun c1 hc1=>⟨_,rfl,c1,m,rfl,by omega,m1,m7,fun st x y r H1 hx hy s2 hr2 hR2=>?_⟩⟩
   refine ⟨rs++[⟨r,st,x,y⟩],by rw [Zw_]; rfl,by rw [Zv_,e]; rfl,fun v hv=>?_,s'.trans s2⟩
   rcases Θa hv with hv | hv
   ·exact ⟨s2 _ _ (hRs v hv).1,(hRs v hv).2⟩
   ·rw [Θs hv]; exact ⟨hR2,hx,hy⟩
  ·obtain ⟨rs,rfl,e,hRs,s'⟩:=h
   intro p hp
   exact q rs p _ (hRs.same (Same.new hp)) (by omega) (s'.trans (Same.new hp)) (s'.none hp) A6
end
end
end Own
namespace Own
open PySem L2
section
variable {P:Program} {w:World} {K:Θf} {mg:Str->Option Value} {base:Heap}
seal PySem.wpAny
noncomputable abbrev Pe:Stmt:=top 87
theorem scTable:FnScope ["_law_script","_law_most","_law_many","_law_names_here","_law_rules_here","_law_word","_law_left","_law_right"] ["_law_script","_law_most"] (B6 Pe):=⟨rfl,rfl,rfl,by decide +kernel,rfl,by decide +kernel,by decide +kernel⟩
theorem Xk {f fCA fNA fLR:Addr} {fd fdCA fdNA fdLR:FuncData} (F:Fun K "_law_table" "_law_table" Pe f fd) (GCA:FnOk P w K mg base CX0 1 fCA fdCA ["_law_script","_law_k"] (Bp K)) (mCA:mg "_law_cell_at" = some (.ref fCA)) (kCA:Θk K fCA) (bCA:Binds K fdCA ["_law_script","_law_k"] []) (GNA:FnOk P w K mg base CX0 1 fNA fdNA ["_law_cell","_law_count"] Ig) (mNA:mg "_law_names" = some (.ref fNA)) (kNA:Θk K fNA) (bNA:Binds K fdNA ["_law_cell","_law_count"] []) (GLR:FnOk P w K mg base CX0 2 fLR fdLR ["_law_script","_law_many"] (Mr K)) (mLR:mg "_law_rules" = some (.ref fLR)) (kLR:Θk K fLR) (bLR:Binds K fdLR ["_law_script","_law_many"] []):FnOk P w K mg base CX0 3 f fd ["_law_script","_law_most"] (Ik K):=by
 refine F.ok scTable (fun vs H Q E h=>?_) (fun cdv A outer s H vs Q E hr h=>?_)
 ·obtain ⟨sc,ns,mo,rfl,_⟩:=h
  rfl
 ·obtain ⟨sc,ns,mo,rfl,mo1,mo7,hS,q⟩:=h
  have nd:=scTable.nd
  have hr1:Room 1 _:=hr.mono (by decide)
  have hr2:Room 2 _:=hr.mono (by decide)
  refine ⟨_,(A8 (C3 (i:=2) nd rfl (Or.inl rfl) (B8 G8 A9 (B8 D9 (C0 GCA hr1 rfl mCA kCA bCA .nil D1 (A0 (pv 0) (A0 A9 A7))) (pv 1))))
   (A8 (C3 (i:=3) nd rfl (Or.inl rfl) (C0 GNA hr1 rfl mNA kNA bNA .nil D1 (A0 (C0 GCA hr1 rfl mCA kCA bCA .nil D1 (A0 (pv 0) (A0 A9 A7))) (A0 (pv 2) A7))))
   (A8 (C3 (i:=4) nd rfl (Or.inl rfl) (D8 A7))
   (A8 (L7 PassesOwn.never rfl (F1 (K:=K) rfl (C0 GLR hr2 rfl mLR kLR bLR .nil D1 (A0 (pv 0) (A0 (pv 2) A7)))) (W5 rfl (F3 (D3 (i:=5) nd rfl (Or.inl rfl)) (F3 (D3 (i:=6) nd rfl (Or.inl rfl)) (F3 (D3 (i:=7) nd rfl (Or.inl rfl)) Q6)))) (A8 (E3 (C5 N6 (pv 7) A9 (D0 _)) (B0 (C3 (i:=7) nd rfl (Or.inl rfl) (B8 O9 A9 (B8 D9 (pv 6) (pv 2))))) C9)
   (B0 (P0 (G5 PySem.F.plainAttrs_list PySem.F.slot_list_append PySem.F.type_list_append Q8 (pv 4) (A0 (G3 (A0 (pv 5) (A0 (pv 6) (A0 (pv 7) A7)))) A7))))))
   (B0 (C2 (G3 (A0 (pv 3) (A0 (pv 4) A7))))))))),?_⟩
  refine ⟨_,rfl,sc,ns,0,rfl,hS,by omega,fun c0 hc0=>⟨_,rfl,c0,mo,rfl,rfl,(by show 0 < mo; omega),1,c0 % mo,rfl,rfl,?_⟩⟩
  have cm:=Nat.mod_lt c0 (show mo > 0 by omega)
  have m1:1<=1 + c0 % mo:=by omega
  have m7:1 + c0 % mo<=7:=by omega
  have mm:1 + c0 % mo<=mo:=by omega
  dsimp (config:={ proj:=false,iota:=false }) only
  generalize 1 + c0 % mo=m at m1 m7 mm
  refine ⟨_,rfl,sc,ns,3,rfl,hS,by omega,fun c3 hc3=>⟨_,rfl,c3,m,rfl,m1,m7,fun nms nl H1 NN NNW en s1 hnl0 hnl=>?_⟩⟩
  subst en
  refine ⟨(by show 0<=sizeLine; decide),fun rl hrl0=>?_⟩
  have s2:=Same.new (o:=.lst []) hrl0
  have hrl:(upd H1 rl (.lst [])) rl=some (.lst (([]:List Rl).map fun (r:Rl)=>V.ref r.r)):=A6
  have hnl2:=s2 _ _ hnl
  have nrl:H rl=none:=s1.none hrl0
  have nnr:nl≠rl:=C4 hnl hrl0
  replace s2:=s1.trans s2
  generalize upd H1 rl (.lst [])=H2 at s2 hrl hnl2
  refine ⟨_,rfl,_,rfl,sc,ns,nms.length,rfl,s2.seq hS,m1,m7,fun rs p H3 hR l12 s3 hp0 hp=>?_⟩
  have hrl3:=s3 _ _ hrl
  have hnl3:=s3 _ _ hnl2
  have npr:p≠rl:=fun z=>by rw [z,hrl] at hp0; cases hp0
  have nrr:∀r∈rs,r.r≠rl:=fun r hr' z=>by
   have:=(hR r hr').1
   unfold K8 at this
   rw [z,hrl3] at this
   cases this
  replace s3:=s2.trans s3
  have lr:(rs.map fun (r:Rl)=>V.ref r.r).length=rs.length:=Θl ..
  refine ⟨p,rfl,⟨_,SqL.of hp⟩,P3 (K:=K) (xs:=rs.map fun (r:Rl)=>V.ref r.r) (fun i σ H'=>(∃v5 v6 v7,σ=[some (.ref sc),some (vN mo),some (vN nms.length),some (.ref nl),some (.ref rl),v5,v6,v7])/\But rl H3 H'/\Same H H'/\∃ks:List Rl,ks.length=i/\RulesAt H' nms.length ks/\(∀r∈ks,r.y≠0/\r.r≠rl)/\H' rl=some (.lst (ks.map fun (r:Rl)=>V.ref r.r))) ⟨⟨_,_,_,rfl⟩,But.refl _ _,s3,[],rfl,(fun r h=>absurd h Zi_),(fun r h=>absurd h Zi_),hrl3⟩ (fun i σ H' _ h=>SqL.of (h.2.1 _ _ hp npr)) ?_ ?_⟩
  ·rintro i v σ H4 hv ⟨⟨v5,v6,v7,rfl⟩,B4,s4,ks,lk,hK,hne,hrl4⟩
   rw [Θg] at hv
   cases ec:rs[i]? with
   | none=>rw [ec] at hv; cases hv
   | some r=>
    rw [ec] at hv
    obtain rfl:=(Θo hv).symm
    have hm:=Θe ec
    have hi:i < rs.length:=(Ze_.mp ec).1
    have hr4:K8 H4 r.r r.st r.x r.y:=B4 _ _ (hR r hm).1 (nrr r hm)
    have hxm:=(hR r hm).2
    refine ⟨r.r,_,rfl,SqT.of hr4,rfl,_,_,rfl,_,_,rfl,_,_,rfl,rfl,?_⟩
    refine ⟨_,rfl,r.y,0,rfl,rfl,_,rfl,F7 (fun hc=>?A) (fun hc=>?B)⟩
    case' A=>
     refine ⟨_,rfl,_,rfl,r.x,nms.length,rfl,rfl,m1,r.x % nms.length,rfl,rfl,(by have:=Nat.mod_lt r.x m1; omega),?_⟩
     have hy0:2 ^ (r.x % nms.length)≠0:=Nat.ne_of_gt (Nat.two_pow_pos _)
     have hyl:2 ^ (r.x % nms.length) < 2 ^ nms.length:=Nat.pow_lt_pow_right (by decide) (Nat.mod_lt r.x m1)
     dsimp (config:={ proj:=false,iota:=false }) only
     generalize 2 ^ (r.x % nms.length)=y at hy0 hyl
    case' B=>
     have hy0:r.y≠0:=fun z=>hc (Zr_ z)
     have hyl:=hxm.2
     generalize r.y=y at hy0 hyl
    all_goals
     refine ⟨_,rfl,.inl ⟨rfl,_,SqL.of hrl4⟩,_,rfl,_,rfl,_,rfl,(by show 3<=sizeLine; decide),fun t ht=>?_⟩
     have s5:=Same.new (o:=.tup [V.str (D6 r.st),vN r.x,vN y]) ht
     have hrl5:=s5 _ _ hrl4
     have ht5:(upd H4 t (.tup [V.str (D6 r.st),vN r.x,vN y])) t=some (.tup [V.str (D6 r.st),vN r.x,vN y]):=A6
     have ntr:t≠rl:=(C4 hrl4 ht).symm
     refine ⟨rl,_,_,rfl,rfl,hrl5,D4 (by rw [Θl]; omega),?_⟩
     generalize upd H4 t (.tup [V.str (D6 r.st),vN r.x,vN y])=H5 at s5 hrl5 ht5
     refine ⟨⟨_,_,_,rfl⟩,fun b o hb nb=>by rw [C8 nb]; exact s5 _ _ (B4 b o hb nb),(s4.trans s5).over nrl,ks++[⟨t,r.st,r.x,y⟩],by rw [Zv_,lk]; rfl,fun k hk=>?_,fun k hk=>?_,?_⟩
     ·rcases Θa hk with hk | hk
      ·refine ⟨?_,(hK k hk).2⟩
       show upd H5 rl _ k.r=_
       rw [C8 (hne k hk).2]
       exact s5 _ _ (hK k hk).1
      ·rw [Θs hk]
       refine ⟨?_,hxm.1,hyl⟩
       show upd H5 rl _ t=_
       rw [C8 ntr]
       exact ht5
     ·rcases Θa hk with hk | hk
      ·exact hne k hk
      ·rw [Θs hk]; exact ⟨hy0,ntr⟩
     ·rw [A6,Zw_]; rfl
  ·rintro σ H4 ⟨⟨v5,v6,v7,rfl⟩,B4,s4,ks,lk,hK,hne,hrl4⟩
   refine ⟨_,rfl,_,rfl,(by show 2<=sizeLine; decide),fun t ht=>?_⟩
   have s5:=Same.new (o:=.tup [V.ref nl,V.ref rl]) ht
   exact q t nl rl nms ks _ NN NNW mm (s4.trans s5) (hK.same s5) (fun r hr'=>(hne r hr').1) (by rw [lk,lr]; exact l12) A6 (s5 _ _ (B4 _ _ hnl3 nnr)) (s5 _ _ hrl4)
end
end Own
namespace Own
open PySem L2
section
variable {P:Program} {w:World} {K:Θf} {mg:Str->Option Value} {base:Heap}
seal PySem.wpAny
noncomputable abbrev Ka:Stmt:=top 8
theorem scCanUse:FnScope ["rule","block","taken"] ["rule","block"] (B6 Ka):=⟨rfl,rfl,rfl,by decide +kernel,rfl,by decide +kernel,by decide +kernel⟩
theorem Te {f:Addr} {fd:FuncData} (F:Fun K "can_use" "can_use" Ka f fd):FnOk P w K mg base CX0 1 f fd ["rule","block"] Ga:=by
 refine F.ok scCanUse (fun vs H Q E h=>?_) (fun cdv A outer s H vs Q E hr h=>?_)
 ·obtain ⟨r,st,x,y,b,rfl,_⟩:=h
  rfl
 ·obtain ⟨r,st,x,y,b,rfl,hR,q⟩:=h
  have nd:=scCanUse.nd
  refine ⟨_,(A8 (E3 (C5 Fd (B8 S3 (C7 (D5 (K:=K) rfl) (pv 0) A9 (fun _ _=>rfl)) (pv 1)) A9 (D0 _)) (B0 (C2 W4)) C9)
   (A8 (C3 (i:=2) nd rfl (Or.inl rfl) (B8 S3 (C7 (D5 (K:=K) rfl) (pv 0) A9 (fun _ _=>rfl)) (pv 1)))
   (A8 (E3 (C5 op_eq (C7 (D5 (K:=K) rfl) (pv 0) A9 (fun _ _=>rfl)) B7 (D0 _)) (B0 (C2 (N4 Fd (pv 2) A9 (D0 _)))) C9)
   (B0 (C2 (Adb (N4 Fd (pv 2) A9 (D0 _)) (Xp (N4 Fd (pv 2) (pv 1) (D0 _))))))))),?_⟩
  refine ⟨_,rfl,r,_,_,_,rfl,rfl,SqT.of hR,B9 (j:=1) rfl,_,rfl,x,b,rfl,rfl,x&&&b,0,rfl,rfl,_,rfl,?_⟩
  cases c1:decide (x&&&b=0) with
  | false=>
   refine L9 ?_
   have:F9 st x y b=false:=by unfold F9; rw [c1]; rfl
   rw [this] at q
   exact q
  | true=>
   refine K9 ?_
   refine ⟨_,rfl,r,_,_,_,rfl,rfl,SqT.of hR,B9 (j:=2) rfl,_,rfl,y,b,rfl,rfl,?_⟩
   refine ⟨_,rfl,r,_,_,_,rfl,rfl,SqT.of hR,B9 (j:=0) rfl,rfl,_,rfl,?_⟩
   cases st with
   | true=>
    refine L9 ?_
    have:F9 true x y b = !decide (y&&&b=0):=by unfold F9; rw [c1]; simp
    rw [this] at q
    exact ⟨_,rfl,y&&&b,0,rfl,rfl,q⟩
   | false=>
    refine F7 (fun hc=>?_) (fun _=>?_)
    ·exact absurd (Zj_ hc) (by intro z; injection z with z; revert z; decide)
    refine ⟨_,rfl,y&&&b,0,rfl,rfl,_,rfl,?_⟩
    cases c2:decide (y&&&b=0) with
    | true=>
     refine K9 ?_
     have:F9 false x y b=false:=by unfold F9; rw [c1,c2]; rfl
     rw [this] at q
     exact q
    | false=>
     refine L9 ?_
     have:F9 false x y b = !decide (y&&&b=b):=by unfold F9; rw [c1,c2]; simp
     rw [this] at q
     exact ⟨_,rfl,_,rfl,y&&&b,b,rfl,rfl,q⟩
noncomputable abbrev Kf:Stmt:=top 9
theorem Yk:FnScope ["block"] ["block"] (B6 Kf):=⟨rfl,rfl,rfl,by decide +kernel,rfl,by decide +kernel,by decide +kernel⟩
theorem Ti {f:Addr} {fd:FuncData} (F:Fun K "listed" "listed" Kf f fd):FnOk P w K mg base CX0 1 f fd ["block"] Fz:=by
 refine F.ok Yk (fun vs H Q E h=>?_) (fun cdv A outer s H vs Q E hr h=>?_)
 ·obtain ⟨b,rfl,_⟩:=h
  rfl
 ·obtain ⟨b,rfl,q⟩:=h
  refine ⟨_,(A8 (E3 (C5 N6 (pv 0) A9 (D0 _)) (B0 (C2 (D8 A7))) C9)
   (B0 (C2 (D8 (A0 (pv 0) A7))))),?_⟩
  refine ⟨_,rfl,b,0,rfl,rfl,_,rfl,F7 (fun hc=>?_) (fun hc=>?_)⟩
  ·have b0:b=0:=Zj_ hc
   refine ⟨(by show 0<=sizeLine; exact Zp_ _),fun p hp=>?_⟩
   have:=q p hp
   rw [if_neg (by omega)] at this
   exact this
  ·have b0:0 < b:=Nat.pos_of_ne_zero fun z=>hc (Zr_ z)
   refine ⟨_,rfl,(by show 1<=sizeLine; decide),fun p hp=>?_⟩
   have:=q p hp
   rw [if_pos b0] at this
   exact this
noncomputable abbrev Yj:Stmt:=top 10
theorem scUsed:FnScope ["rule","fixed","blocks","at","taken","rest"] ["rule","fixed","blocks","at"] (B6 Yj):=⟨rfl,rfl,rfl,by decide +kernel,rfl,by decide +kernel,by decide +kernel⟩
theorem Aaw {f fI:Addr} {fd fdI:FuncData} (F:Fun K "used" "used" Yj f fd) (GI:FnOk P w K mg base CX0 1 fI fdI ["block"] Fz) (mI:mg "listed" = some (.ref fI)) (kI:Θk K fI) (bI:Binds K fdI ["block"] []):FnOk P w K mg base CX0 2 f fd ["rule","fixed","blocks","at"] (Yz K):=by
 refine F.ok scUsed (fun vs H Q E h=>?_) (fun cdv A outer s H vs Q E hr h=>?_)
 ·obtain ⟨r,l,st,x,y,fx,at_,bs,rfl,_⟩:=h
  rfl
 ·obtain ⟨r,l,st,x,y,fx,at_,bs,rfl,hR,hl,hat,hb,hdis,q⟩:=h
  have nd:=scUsed.nd
  refine ⟨_,(A8 (C3 (i:=4) nd rfl (Or.inl rfl) (B8 S3 (C7 (C6 (K:=K) rfl) (pv 2) (pv 3) (fun _ _=>rfl)) (C7 (D5 (K:=K) rfl) (pv 0) A9 (fun _ _=>rfl))))
   (A8 (C3 (i:=5) nd rfl (Or.inl rfl) (B8 Y3 (C7 (C6 (K:=K) rfl) (pv 2) (pv 3) (fun _ _=>rfl)) (Hv Kt (C7 (D5 (K:=K) rfl) (pv 0) A9 (fun _ _=>rfl)))))
   (A8 (E3 (C5 op_eq (C7 (D5 (K:=K) rfl) (pv 0) A9 (fun _ _=>rfl)) B7 (D0 _)) (B0 (C2 (G3 (A0 (B8 Ju (pv 1) (pv 4)) (A0 (B8 F2 (B8 F2 (I0 N0 (pv 2) M7 (K6 (pv 3))) (C0 GI hr rfl mI kI bI .nil D1 (A0 (pv 5) A7))) (I0 N0 (pv 2) (K6 (B8 G8 (pv 3) A9)) M7)) A7))))) C9)
   (B0 (C2 (G3 (A0 (pv 1) (A0 (B8 F2 (B8 F2 (I0 N0 (pv 2) M7 (K6 (pv 3))) (D8 (A0 (pv 4) (A0 (pv 5) A7)))) (I0 N0 (pv 2) (K6 (B8 G8 (pv 3) A9)) M7)) A7)))))))),?_⟩
  have eb:bs[at_]? = some (bs.getD at_ 0):=by rw [Zu_,Θh hat]; rfl
  have ebv:(bs.map vN)[at_]? = some (vN (bs.getD at_ 0)):=by rw [Θg,eb]; rfl
  refine ⟨_,rfl,_,rfl,l,_,_,_,rfl,rfl,hl,B9 ebv,_,rfl,r,_,_,_,rfl,rfl,SqT.of hR,B9 (j:=2) rfl,bs.getD at_ 0,y,rfl,rfl,?_⟩
  refine ⟨_,rfl,_,rfl,l,_,_,_,rfl,rfl,hl,B9 ebv,_,rfl,r,_,_,_,rfl,rfl,SqT.of hR,B9 (j:=2) rfl,(y:Int),rfl,bs.getD at_ 0,y,rfl,rfl,?_⟩
  refine ⟨_,rfl,r,_,_,_,rfl,rfl,SqT.of hR,B9 (j:=0) rfl,rfl,_,rfl,?_⟩
  have lt:(List.take at_ (bs.map vN)).length<=200:=by rw [ZB,Θl]; omega
  have ld:(List.drop (at_ + 1) (bs.map vN)).length<=200:=by rw [List.length_drop,Θl]; omega
  have szc:∀n:Nat,n<=1000->n<=sizeLine:=fun n h=>Nat.le_of_lt (D4 h)
  have e1:R8 (bs.map vN) none (some (at_:Int))=List.take at_ (bs.map vN):=Lg _ _
  have e2:R8 (bs.map vN) (some ((at_ + 1:Nat):Int)) none=List.drop (at_ + 1) (bs.map vN):=Lf _ _
  cases st with
  | true=>
   refine L9 ?_
   have eo:R0 true y fx bs at_=fx|||inN y bs at_:=by
    unfold R0
    rw [if_pos rfl]
    exact (Op fx (inN y bs at_) (Q1 hdis (Ct _ y))).symm
   refine ⟨_,rfl,_,rfl,fx,inN y bs at_,rfl,rfl,?_⟩
   refine ⟨_,rfl,_,rfl,(at_:Int),rfl,l,_,rfl,hl,fun p1 hp1=>?_⟩
   rw [e1]
   have s1:=Same.new (o:=.lst (List.take at_ (bs.map vN))) hp1
   refine ⟨_,rfl,Q5 y bs at_,rfl,fun p3 hp3=>?_⟩
   have s3:=Same.new (o:=.lst ((if 0 < Q5 y bs at_ then [Q5 y bs at_] else []).map vN)) hp3
   have l3:((if 0 < Q5 y bs at_ then [Q5 y bs at_] else []).map vN).length<=1:=by split <;> simp
   refine ⟨p1,p3,List.take at_ (bs.map vN),(if 0 < Q5 y bs at_ then [Q5 y bs at_] else []).map vN,rfl,rfl,s3 _ _ A6,A6,szc _ (by omega),fun p4 hp4=>?_⟩
   have s4:=Same.new (o:=.lst (List.take at_ (bs.map vN)++(if 0 < Q5 y bs at_ then [Q5 y bs at_] else []).map vN)) hp4
   have s14:=(s1.trans s3).trans s4
   refine ⟨_,rfl,_,rfl,at_,1,rfl,rfl,((at_ + 1:Nat):Int),rfl,l,_,rfl,s14.seq hl,fun p5 hp5=>?_⟩
   rw [e2]
   have s5:=Same.new (o:=.lst (List.drop (at_ + 1) (bs.map vN))) hp5
   refine ⟨p4,p5,List.take at_ (bs.map vN)++(if 0 < Q5 y bs at_ then [Q5 y bs at_] else []).map vN,List.drop (at_ + 1) (bs.map vN),rfl,rfl,s5 _ _ A6,A6,szc _ (by rw [Zv_]; omega),fun p6 hp6=>?_⟩
   have e6:List.take at_ (bs.map vN)++(if 0 < Q5 y bs at_ then [Q5 y bs at_] else []).map vN++List.drop (at_ + 1) (bs.map vN)=(F6 true y bs at_).map vN:=by
    unfold F6
    rw [if_pos rfl,Zw_,Zw_,List.map_take,List.map_drop]
   rw [e6]
   have s6:=Same.new (o:=.lst ((F6 true y bs at_).map vN)) hp6
   refine ⟨(by show 2<=sizeLine; decide),fun t ht=>?_⟩
   have s7:=Same.new (o:=.tup [vN (fx|||inN y bs at_),V.ref p6]) ht
   have s16:=(s14.trans s5).trans s6
   exact q t p6 _ (s16.trans s7) (s16.none ht) (by rw [eo]; exact A6) ((s14.trans s5).none hp6) (s7 _ _ A6)
  | false=>
   refine F7 (fun hc=>?_) (fun _=>?_)
   ·exact absurd (Zj_ hc) (by intro z; injection z with z; revert z; decide)
   refine ⟨_,rfl,?_⟩
   refine ⟨_,rfl,_,rfl,(at_:Int),rfl,l,_,rfl,hl,fun p1 hp1=>?_⟩
   rw [e1]
   have s1:=Same.new (o:=.lst (List.take at_ (bs.map vN))) hp1
   refine ⟨_,rfl,_,rfl,(by show 2<=sizeLine; decide),fun p3 hp3=>?_⟩
   have s3:=Same.new (o:=.lst [vN (inN y bs at_),vN (Q5 y bs at_)]) hp3
   refine ⟨p1,p3,List.take at_ (bs.map vN),[vN (inN y bs at_),vN (Q5 y bs at_)],rfl,rfl,s3 _ _ A6,A6,szc _ (by show _ + 2<=1000; omega),fun p4 hp4=>?_⟩
   have s4:=Same.new (o:=.lst (List.take at_ (bs.map vN)++[vN (inN y bs at_),vN (Q5 y bs at_)])) hp4
   have s14:=(s1.trans s3).trans s4
   refine ⟨_,rfl,_,rfl,at_,1,rfl,rfl,((at_ + 1:Nat):Int),rfl,l,_,rfl,s14.seq hl,fun p5 hp5=>?_⟩
   rw [e2]
   have s5:=Same.new (o:=.lst (List.drop (at_ + 1) (bs.map vN))) hp5
   refine ⟨p4,p5,List.take at_ (bs.map vN)++[vN (inN y bs at_),vN (Q5 y bs at_)],List.drop (at_ + 1) (bs.map vN),rfl,rfl,s5 _ _ A6,A6,szc _ (by rw [Zv_]; show _ + 2 + _<=1000; omega),fun p6 hp6=>?_⟩
   have e6:List.take at_ (bs.map vN)++[vN (inN y bs at_),vN (Q5 y bs at_)]++List.drop (at_ + 1) (bs.map vN)=(F6 false y bs at_).map vN:=by
    unfold F6
    rw [if_neg Zf_,Zw_,Zw_,List.map_take,List.map_drop]
    rfl
   rw [e6]
   have s6:=Same.new (o:=.lst ((F6 false y bs at_).map vN)) hp6
   refine ⟨(by show 2<=sizeLine; decide),fun t ht=>?_⟩
   have s7:=Same.new (o:=.tup [vN fx,V.ref p6]) ht
   have s16:=(s14.trans s5).trans s6
   exact q t p6 _ (s16.trans s7) (s16.none ht) A6 ((s14.trans s5).none hp6) (s7 _ _ A6)
noncomputable abbrev Ot:Stmt:=top 11
theorem Abe:FnScope ["many","some"] ["many","some"] (B6 Ot):=⟨rfl,rfl,rfl,by decide +kernel,rfl,by decide +kernel,by decide +kernel⟩
theorem Ws {f fI fAL:Addr} {fd fdI fdAL:FuncData} (F:Fun K "begun" "begun" Ot f fd) (GI:FnOk P w K mg base CX0 1 fI fdI ["block"] Fz) (mI:mg "listed" = some (.ref fI)) (kI:Θk K fI) (bI:Binds K fdI ["block"] []) (GAL:FnOk P w K mg base CX0 1 fAL fdAL ["many"] Ed) (mAL:mg "all_of" = some (.ref fAL)) (kAL:Θk K fAL) (bAL:Binds K fdAL ["many"] []):FnOk P w K mg base CX0 2 f fd ["many","some"] (Rf K):=by
 refine F.ok Abe (fun vs H Q E h=>?_) (fun cdv A outer s H vs Q E hr h=>?_)
 ·obtain ⟨m,x,rfl,_⟩:=h
  rfl
 ·obtain ⟨m,x,rfl,m7,hx,q⟩:=h
  have hr1:Room 1 _:=hr.mono (by decide)
  refine ⟨_,(B0 (C2 (G3 (A0 (pv 1) (A0 (C0 GI hr1 rfl mI kI bI .nil D1 (A0 (B8 Y3 (C0 GAL hr1 rfl mAL kAL bAL .nil D1 (A0 (pv 0) A7)) (Hv Kt (pv 1))) A7)) A7))))),?_⟩
  refine ⟨_,rfl,_,rfl,m,rfl,by omega,_,rfl,(x:Int),rfl,2 ^ m - 1,x,rfl,rfl,2 ^ m - 1 - ((2 ^ m - 1)&&&x),rfl,fun p hp=>?_⟩
  have ea:(2 ^ m - 1)&&&x=x:=by rw [Nat.and_comm,Nat.and_two_pow_sub_one_eq_mod,Nat.mod_eq_of_lt hx]
  have e:(if 0 < 2 ^ m - 1 - ((2 ^ m - 1)&&&x) then [2 ^ m - 1 - ((2 ^ m - 1)&&&x)] else [])=E9 m x:=by
   rw [ea]
   unfold E9
   by_cases h:x < 2 ^ m - 1
   ·rw [if_pos h,if_pos (by omega)]
   ·rw [if_neg h,if_neg (by omega)]
  rw [e]
  have s1:=Same.new (o:=.lst ((E9 m x).map vN)) hp
  refine ⟨(by show 2<=sizeLine; decide),fun t ht=>?_⟩
  have s2:=Same.new (o:=.tup [vN x,V.ref p]) ht
  exact q t p _ (s1.trans s2) (s1.none ht) A6 hp (s2 _ _ A6)
noncomputable abbrev Ow:Stmt:=top 12
theorem scFirst:FnScope ["rules","blocks","number","rule","at","block"] ["rules","blocks"] (B6 Ow):=⟨rfl,rfl,rfl,by decide +kernel,rfl,by decide +kernel,by decide +kernel⟩
theorem Wx {f fCU:Addr} {fd fdCU:FuncData} (F:Fun K "first_use" "first_use" Ow f fd) (GCU:FnOk P w K mg base CX0 1 fCU fdCU ["rule","block"] Ga) (mCU:mg "can_use" = some (.ref fCU)) (kCU:Θk K fCU) (bCU:Binds K fdCU ["rule","block"] []) (zenumerate:mg "enumerate" = none):FnOk P w K mg base CX0 2 f fd ["rules","blocks"] (Fx K):=by
 refine F.ok scFirst (fun vs H Q E h=>?_) (fun cdv A outer s H vs Q E hr h=>?_)
 ·obtain ⟨rl,bl,rs,bs,m,rfl,_⟩:=h
  rfl
 ·obtain ⟨rl,bl,rs,bs,m,rfl,hrl,hRs,hbl,lr,lb,qn,qs⟩:=h
  have nd:=scFirst.nd
  have hr:Room 1 _:=hr.mono (by decide)
  have lrm:(rs.map fun r=>V.ref r.r).length=rs.length:=Θl ..
  have lbm:(bs.map vN).length=bs.length:=Θl ..
  refine ⟨_,(A8 (L7 PassesOwn.never rfl (Dy (K:=K) rfl rfl zenumerate (A0 (pv 0) A7)) (W5 rfl (F3 (D3 (i:=2) nd rfl (Or.inl rfl)) (F3 (D3 (i:=3) nd rfl (Or.inl rfl)) Q6))) (B0 (L7 PassesOwn.never rfl (Dy (K:=K) rfl rfl zenumerate (A0 (pv 1) A7)) (W5 rfl (F3 (D3 (i:=4) nd rfl (Or.inl rfl)) (F3 (D3 (i:=5) nd rfl (Or.inl rfl)) Q6))) (B0 (E3 (O2 (C0 GCU hr rfl mCU kCU bCU .nil D1 (A0 (pv 3) (A0 (pv 5) A7)))) (B0 (C2 (G3 (A0 (pv 2) (A0 (pv 4) A7))))) C9)))))
   (B0 (C2 K5))),?_⟩
  refine ⟨_,rfl,rl,_,rfl,hrl,Ar (xs:=rs.map fun r=>V.ref r.r) (fun i σ H'=>(∃v2 v3 v4 v5,σ=[some (.ref rl),some (.ref bl),v2,v3,v4,v5])/\Same H H'/\L4 (rs.map Rl.d) bs i=[]) ⟨⟨none,none,none,none,rfl⟩,Same.refl _,rfl⟩ (fun i σ H' _ h=>h.2.1.seq hrl) ?_ ?_⟩
  ·rintro i v σ H0 t0 hv ⟨⟨v2,v3,v4,v5,rfl⟩,s0,u0⟩ ht0
   rw [Θg] at hv
   cases er:rs[i]? with
   | none=>rw [er] at hv; cases hv
   | some r=>
    rw [er] at hv
    obtain rfl:=(Θo hv).symm
    have hi:i < rs.length:=(Ze_.mp er).1
    have hrm:=Θe er
    have s1:=s0.trans (Same.new (o:=.tup [.int (i:Int),V.ref r.r]) ht0)
    refine ⟨t0,_,rfl,SqT.of A6,rfl,_,_,rfl,_,_,rfl,rfl,?_⟩
    generalize upd H0 t0 (.tup [.int (i:Int),V.ref r.r])=H1 at s1
    refine ⟨_,rfl,bl,_,rfl,s1.seq hbl,Ar (xs:=bs.map vN) (fun j σ H'=>(∃v4 v5,σ=[some (.ref rl),some (.ref bl),some (vN i),some (.ref r.r),v4,v5])/\Same H H'/\V5 r.d i bs j=[]) ⟨⟨_,_,rfl⟩,s1,rfl⟩ (fun j σ H' _ h=>h.2.1.seq hbl) ?_ ?_⟩
    ·rintro j v σ H2 t2 hv' ⟨⟨v4',v5',rfl⟩,s2,u2⟩ ht2
     rw [Θg] at hv'
     cases eb:bs[j]? with
     | none=>rw [eb] at hv'; cases hv'
     | some b=>
      rw [eb] at hv'
      obtain rfl:=(Θo hv').symm
      have hj:j < bs.length:=(Ze_.mp eb).1
      have ebd:bs.getD j 0=b:=by rw [Zu_,eb]; rfl
      have s3:=s2.trans (Same.new (o:=.tup [.int (j:Int),vN b]) ht2)
      refine ⟨t2,_,rfl,SqT.of A6,rfl,_,_,rfl,_,_,rfl,rfl,?_⟩
      generalize upd H2 t2 (.tup [.int (j:Int),vN b])=H3 at s3
      refine ⟨_,rfl,_,rfl,r.r,r.st,r.x,r.y,b,rfl,s3 _ _ (hRs r hrm).1,_,rfl,F7 (fun hu=>?_) (fun hu=>?_)⟩
      ·obtain ⟨us,eu⟩:=Pu (n:=rs.length) u0 (by rw [Qy er]; exact u2) hi hj (by rw [Qy er,ebd]; exact hu)
       refine ⟨_,rfl,_,rfl,(by show 2<=sizeLine; decide),fun t ht=>?_⟩
       exact qs (i,j) us t _ (s3.trans (Same.new ht)) eu (s3.none ht) A6
      ·refine ⟨⟨_,_,rfl⟩,s3,?_⟩
       rw [Al,u2,ebd,if_neg (show ¬usB r.d b=true from hu)]; rfl
    ·rintro σ H2 ⟨⟨v4',v5',rfl⟩,s2,u2⟩
     rw [lbm] at u2
     refine ⟨⟨_,_,_,_,rfl⟩,s2,?_⟩
     rw [Ak,u0,Qy er,u2]; rfl
  ·rintro σ H' ⟨⟨v2,v3,v4,v5,rfl⟩,s',u'⟩
   rw [lrm] at u'
   exact qn H' s' u'
noncomputable abbrev Adx:Stmt:=top 13
theorem scUnf:FnScope ["many","rules","some","now","steps","use"] ["many","rules","some"] (B6 Adx):=⟨rfl,rfl,rfl,by decide +kernel,rfl,by decide +kernel,by decide +kernel⟩
theorem Ac4 {f fBG fFU fUD:Addr} {fd fdBG fdFU fdUD:FuncData} (F:Fun K "unfolded" "unfolded" Adx f fd) (GBG:FnOk P w K mg base CX0 2 fBG fdBG ["many","some"] (Rf K)) (mBG:mg "begun" = some (.ref fBG)) (kBG:Θk K fBG) (bBG:Binds K fdBG ["many","some"] []) (GFU:FnOk P w K mg base CX0 2 fFU fdFU ["rules","blocks"] (Fx K)) (mFU:mg "first_use" = some (.ref fFU)) (kFU:Θk K fFU) (bFU:Binds K fdFU ["rules","blocks"] []) (GUD:FnOk P w K mg base CX0 2 fUD fdUD ["rule","fixed","blocks","at"] (Yz K)) (mUD:mg "used" = some (.ref fUD)) (kUD:Θk K fUD) (bUD:Binds K fdUD ["rule","fixed","blocks","at"] []):FnOk P w K mg base CX0 3 f fd ["many","rules","some"] (Ah K):=by
 refine F.ok scUnf (fun vs H Q E h=>?_) (fun cdv A outer s H vs Q E hr h=>?_)
 ·obtain ⟨m,x,rl,rs,rfl,_⟩:=h
  rfl
 ·obtain ⟨m,x,rl,rs,rfl,m7,hx,hrl,hRs,lr,qq⟩:=h
  have nd:=scUnf.nd
  have hr2:Room 2 _:=hr.mono (by decide)
  refine ⟨_,(A8 (C3 (i:=3) nd rfl (Or.inl rfl) (C0 GBG hr2 rfl mBG kBG bBG .nil D1 (A0 (pv 0) (A0 (pv 2) A7)))) (A8 (C3 (i:=4) nd rfl (Or.inl rfl) (D8 A7)) (Jy (fun σ H'=>∃n,Aeb H m x rl rs n σ H') (C3 (i:=5) nd rfl (Or.inl rfl) (C0 GFU hr2 rfl mFU kFU bFU .nil D1 (A0 (pv 1) (A0 (C7 (D5 (K:=K) rfl) (pv 3) A9 (fun _ _=>rfl)) A7)))) (A8 (Fi PassesOwn.never (C5 Aa0 (pv 5) K5 (D0 _)) (A8 (P0 (G5 PySem.F.plainAttrs_list PySem.F.slot_list_append PySem.F.type_list_append Q8 (pv 4) (A0 (G3 (A0 (C7 (D5 (K:=K) rfl) (pv 5) A9 (fun _ _=>rfl)) (A0 (C7 (C6 (K:=K) rfl) (C7 (D5 (K:=K) rfl) (pv 3) A9 (fun _ _=>rfl)) (C7 (D5 (K:=K) rfl) (pv 5) A9 (fun _ _=>rfl)) (fun _ _=>rfl)) A7))) A7)))
   (A8 (C3 (i:=3) nd rfl (Or.inl rfl) (C0 GUD hr2 rfl mUD kUD bUD .nil D1 (A0 (C7 (C6 (K:=K) rfl) (pv 1) (C7 (D5 (K:=K) rfl) (pv 5) A9 (fun _ _=>rfl)) (fun _ _=>rfl)) (A0 (C7 (D5 (K:=K) rfl) (pv 3) A9 (fun _ _=>rfl)) (A0 (C7 (D5 (K:=K) rfl) (pv 3) A9 (fun _ _=>rfl)) (A0 (C7 (D5 (K:=K) rfl) (pv 5) A9 (fun _ _=>rfl)) A7))))))
   (B0 (C3 (i:=5) nd rfl (Or.inl rfl) (C0 GFU hr2 rfl mFU kFU bFU .nil D1 (A0 (pv 1) (A0 (C7 (D5 (K:=K) rfl) (pv 3) A9 (fun _ _=>rfl)) A7)))))))) (B0 (C2 (G3 (A0 (C7 (D5 (K:=K) rfl) (pv 3) A9 (fun _ _=>rfl)) (A0 (C7 (D5 (K:=K) rfl) (pv 3) A9 (fun _ _=>rfl)) (A0 (pv 4) A7)))))))))),?_⟩
  refine ⟨_,rfl,_,rfl,m,x,rfl,m7,hx,fun t0 p0 H1 s1 ht0 ht1 hp0 hp1=>?_⟩
  refine ⟨(by show 0<=sizeLine; exact Zp_ _),fun qa hqa=>?_⟩
  have c2:=UCore.begin (rs:=rs) m7 hx s1 hp0 hp1 hqa
  have ht2:=Same.new (o:=.lst []) hqa _ _ ht1
  generalize upd H1 qa (.lst [])=H2 at c2 ht2
  refine ⟨⟨_,rfl,_,rfl,t0,_,_,_,rfl,rfl,SqT.of ht2,B9 (j:=1) rfl,rl,p0,rs,E9 m x,m,rfl,c2.same.seq hrl,hRs.same c2.same,SqL.of c2.hp,lr,(by have:=c2.good.len m7; exact Zo_ this (by decide)),fun H3 s3 hu=>?_,fun u us t5 H3 s3 hu ht5 ht5'=>?_⟩,?_⟩
  ·exact ⟨_,_,t0,p0,qa,[],.non,rfl,rfl,s3 _ _ ht2,c2.mono s3,.inl ⟨hu,rfl⟩⟩
  ·exact ⟨_,_,t0,p0,qa,[],.ref t5,rfl,rfl,s3 _ _ ht2,c2.mono s3,.inr ⟨u,us,t5,hu,rfl,ht5'⟩⟩
  clear c2 ht2 ht1 hp1 hp0 ht0 s1 hqa
  rintro σ H3 ⟨n0,hinv⟩
  refine ⟨Aeb H m x rl rs,⟨n0,hinv⟩,?_⟩
  rintro n _ H4 ⟨s,t,p,qa,sw,v,rfl,en,ht,c,hv⟩
  refine ⟨_,rfl,rfl,_,rfl,?_⟩
  rcases hv with ⟨hu,rfl⟩ | ⟨u,us,t5,hu,rfl,ht5⟩
  ·refine K9 ?_
   refine ⟨_,rfl,t,_,_,_,rfl,rfl,SqT.of ht,B9 (j:=0) rfl,_,rfl,t,_,_,_,rfl,rfl,SqT.of ht,B9 (j:=1) rfl,_,rfl,(by show 3<=sizeLine; decide),fun tt htt=>?_⟩
   have s5:=Same.new (o:=.tup [vN s.fx,V.ref p,V.ref qa]) htt
   have c5:=c.mono s5
   exact qq tt p qa s sw _ (c.run s (.done (by rw [Xv]; exact hu))) c5.same (c.same.none htt) A6 c5.hp0 c5.hp c5.hq0 c5.hq c5.st c5.est (by have:=c5.slen; omega) c5.npq
  ·refine L9 ?_
   refine ⟨_,fun _ _ h=>h,?_⟩
   obtain ⟨r,er,erd,hu2,ebu,hR⟩:=Abr (rs:=rs) (u:=u) (by rw [hu]; exact Θc ..) (hRs.same c.same)
   have ebv:(s.bs.map vN)[u.2]? = some (vN (s.bs.getD u.2 0)):=by rw [Θg,ebu]; rfl
   have erv:(rs.map fun r=>V.ref r.r)[u.1]? = some (V.ref r.r):=by rw [Θg,er]; rfl
   refine ⟨_,rfl,.inl ⟨rfl,_,SqL.of c.hq⟩,_,rfl,t5,_,_,_,rfl,rfl,SqT.of ht5,B9 (j:=0) rfl,_,rfl,t,_,_,_,rfl,rfl,SqT.of ht,B9 (j:=1) rfl,_,rfl,t5,_,_,_,rfl,rfl,SqT.of ht5,B9 (j:=1) rfl,p,_,_,_,rfl,rfl,SqL.of c.hp,B9 ebv,(by show 2<=sizeLine; decide),fun w hw=>?_⟩
   have sw1:=Same.new (o:=.tup [vN u.1,vN (s.bs.getD u.2 0)]) hw
   have c1:=c.mono sw1
   have hw1:(upd H4 w (.tup [vN u.1,vN (s.bs.getD u.2 0)])) w=some (.tup [vN u.1,vN (s.bs.getD u.2 0)]):=A6
   have ht1:=sw1 _ _ ht
   have ht51:=sw1 _ _ ht5
   generalize upd H4 w (.tup [vN u.1,vN (s.bs.getD u.2 0)])=H5 at sw1 c1 hw1 ht1 ht51
   refine ⟨qa,_,_,rfl,rfl,c1.hq,(by rw [Θl]; exact D4 (by have:=c1.slen; omega)),?_⟩
   have sq:Same H (upd H5 qa (.lst ((sw.map fun w=>V.ref w.1)++[V.ref w]))):=c1.same.own c1.hq0
   have ht2:(upd H5 qa (.lst ((sw.map fun w=>V.ref w.1)++[V.ref w]))) t=some (.tup [vN s.fx,.ref p]):=by rw [C8 (Ht ht1 c1.hq (by intro z; cases z))]; exact ht1
   have ht52:(upd H5 qa (.lst ((sw.map fun w=>V.ref w.1)++[V.ref w]))) t5=some (.tup [vN u.1,vN u.2]):=by rw [C8 (Ht ht51 c1.hq (by intro z; cases z))]; exact ht51
   have hp2:(upd H5 qa (.lst ((sw.map fun w=>V.ref w.1)++[V.ref w]))) p=some (.lst (s.bs.map vN)):=by rw [C8 c1.npq]; exact c1.hp
   have hdis:s.fx&&&s.bs.getD u.2 0=0:=c.good.dis _ (Θe ebu)
   refine ⟨_,rfl,_,rfl,t5,_,_,_,rfl,rfl,SqT.of ht52,B9 (j:=0) rfl,rl,_,_,_,rfl,rfl,sq.seq hrl,B9 erv,_,rfl,t,_,_,_,rfl,rfl,SqT.of ht2,B9 (j:=0) rfl,_,rfl,t,_,_,_,rfl,rfl,SqT.of ht2,B9 (j:=1) rfl,_,rfl,t5,_,_,_,rfl,rfl,SqT.of ht52,B9 (j:=1) rfl,r.r,p,r.st,r.x,r.y,s.fx,u.2,s.bs,rfl,sq _ _ (hRs r (Θe er)).1,SqL.of hp2,hu2,(by have:=c.good.len m7; omega),hdis,fun t' p' H6 s6 ht' ht6 hp' hp6=>?_⟩
   have efx:(S6 (rs.map Rl.d) s u).fx=R0 r.st r.y s.fx s.bs u.2:=by unfold S6; rw [erd]; rfl
   have ebs:(S6 (rs.map Rl.d) s u).bs=F6 r.st r.y s.bs u.2:=by unfold S6; rw [erd]; rfl
   rw [<-efx] at ht6
   rw [<-ebs] at hp6
   obtain ⟨c6,mu⟩:=c1.next (w:=(w,(u.1,s.bs.getD u.2 0))) hu rfl hw1 s6 hp' hp6
   refine ⟨_,rfl,_,rfl,t',_,_,_,rfl,rfl,SqT.of ht6,B9 (j:=1) rfl,rl,p',rs,(S6 (rs.map Rl.d) s u).bs,m,rfl,c6.same.seq hrl,hRs.same c6.same,SqL.of c6.hp,lr,(by have:=c6.good.len m7; omega),fun H7 s7 hu'=>?_,fun u' us' t5' H7 s7 hu' ht7 ht7'=>?_⟩
   ·exact ⟨_,by rw [en]; exact mu,_,t',p',qa,_,.non,rfl,rfl,s7 _ _ ht6,c6.mono s7,.inl ⟨hu',rfl⟩⟩
   ·exact ⟨_,by rw [en]; exact mu,_,t',p',qa,_,.ref t5',rfl,rfl,s7 _ _ ht6,c6.mono s7,.inr ⟨u',us',t5',hu',rfl,ht7'⟩⟩
end
end Own
namespace Own
open PySem L2
section
variable {P:Program} {w:World} {K:Θf} {mg:Str->Option Value} {base:Heap}
seal PySem.wpAny
noncomputable abbrev Adr:Stmt:=top 15
theorem scBrk:FnScope ["rule","blocks","block"] ["rule","blocks"] (B6 Adr):=⟨rfl,rfl,rfl,by decide +kernel,rfl,by decide +kernel,by decide +kernel⟩
theorem Acw {f fCU:Addr} {fd fdCU:FuncData} (F:Fun K "first_breaking" "first_breaking" Adr f fd) (GCU:FnOk P w K mg base CX0 1 fCU fdCU ["rule","block"] Ga) (mCU:mg "can_use" = some (.ref fCU)) (kCU:Θk K fCU) (bCU:Binds K fdCU ["rule","block"] []):FnOk P w K mg base CX0 2 f fd ["rule","blocks"] (Fu K):=by
 refine F.ok scBrk (fun vs H Q E h=>?_) (fun cdv A outer s H vs Q E hr h=>?_)
 ·obtain ⟨r,l,st,x,y,bs,rfl,_⟩:=h
  rfl
 ·obtain ⟨r,l,st,x,y,bs,rfl,hR,hl,lb,qn,qs⟩:=h
  have nd:=scBrk.nd
  have hr1:Room 1 _:=hr.mono (by decide)
  refine ⟨_,(A8 (L7 PassesOwn.never rfl (F1 (K:=K) rfl (pv 1)) (D3 (i:=2) nd rfl (Or.inl rfl)) (B0 (E3 (O2 (C0 GCU hr1 rfl mCU kCU bCU .nil D1 (A0 (pv 0) (A0 (pv 2) A7)))) (B0 (C2 (pv 2))) C9)))
   (B0 (C2 K5))),?_⟩
  refine ⟨_,rfl,l,rfl,⟨_,hl⟩,P3 (xs:=bs.map vN) (fun i σ H'=>(∃v2,σ=[some (.ref r),some (.ref l),v2])/\H' = H/\(bs.take i).find? (usB (st,x,y))=none) ⟨⟨none,rfl⟩,rfl,rfl⟩ (fun i σ H' _ h=>by rw [h.2.1]; exact hl) ?_ ?_⟩
  ·rintro i v σ H' hv ⟨⟨v2,rfl⟩,rfl,hn⟩
   rw [Θg] at hv
   cases eb:bs[i]? with
   | none=>rw [eb] at hv; cases hv
   | some b=>
    rw [eb] at hv
    obtain rfl:=(Θo hv).symm
    refine ⟨_,rfl,_,rfl,r,st,x,y,b,rfl,hR,_,rfl,F7 (fun hu=>?_) (fun hu=>?_)⟩
    ·exact ⟨_,rfl,qs b (Vm hn eb hu)⟩
    ·exact ⟨⟨_,rfl⟩,rfl,Sn hn eb hu⟩
  ·rintro σ H' ⟨⟨v2,rfl⟩,rfl,hn⟩
   rw [Θl,List.take_length] at hn
   exact qn hn
noncomputable abbrev Adt:Stmt:=top 16
theorem scFol:FnScope ["many","rules","rule","told","block"] ["many","rules","rule"] (B6 Adt):=⟨rfl,rfl,rfl,by decide +kernel,rfl,by decide +kernel,by decide +kernel⟩
theorem Acx {f fUN fBR:Addr} {fd fdUN fdBR:FuncData} (F:Fun K "follows" "follows" Adt f fd) (GUN:FnOk P w K mg base CX0 3 fUN fdUN ["many","rules","some"] (Ah K)) (mUN:mg "unfolded" = some (.ref fUN)) (kUN:Θk K fUN) (bUN:Binds K fdUN ["many","rules","some"] []) (GBR:FnOk P w K mg base CX0 2 fBR fdBR ["rule","blocks"] (Fu K)) (mBR:mg "first_breaking" = some (.ref fBR)) (kBR:Θk K fBR) (bBR:Binds K fdBR ["rule","blocks"] []):FnOk P w K mg base CX0 4 f fd ["many","rules","rule"] (Cq K):=by
 refine F.ok scFol (fun vs H Q E h=>?_) (fun cdv A outer s H vs Q E hr h=>?_)
 ·obtain ⟨m,rl,r,rs,st,x,y,rfl,_⟩:=h
  rfl
 ·obtain ⟨m,rl,r,rs,st,x,y,rfl,m7,hx,hrl,hRs,lr,hR,qy,qn⟩:=h
  have nd:=scFol.nd
  have hr2:Room 2 _:=hr.mono (by decide)
  have hr3:Room 3 _:=hr.mono (by decide)
  refine ⟨_,(A8 (C3 (i:=3) nd rfl (Or.inl rfl) (C0 GUN hr3 rfl mUN kUN bUN .nil D1 (A0 (pv 0) (A0 (pv 1) (A0 (C7 (D5 (K:=K) rfl) (pv 2) A9 (fun _ _=>rfl)) A7)))))
   (A8 (C3 (i:=4) nd rfl (Or.inl rfl) (C0 GBR hr2 rfl mBR kBR bBR .nil D1 (A0 (pv 2) (A0 (C7 (D5 (K:=K) rfl) (pv 3) A9 (fun _ _=>rfl)) A7))))
   (A8 (E3 (C5 Ab (pv 4) K5 (D0 _)) (B0 (C2 (G3 (A0 B7 (A0 (C7 (D5 (K:=K) rfl) (pv 3) A9 (fun _ _=>rfl)) A7))))) C9)
   (B0 (C2 (G3 (A0 B7 (A0 (pv 4) A7)))))))),?_⟩
  refine ⟨_,rfl,_,rfl,_,rfl,r,_,_,_,rfl,rfl,SqT.of hR,B9 (j:=1) rfl,m,x,rl,rs,rfl,m7,hx,hrl,hRs,lr,fun t p qa s sw H1 R s1 ht ht1 hp hp1 hq hq1 st1 e1 l1 n1=>?_⟩
  have lb:=((R.good (m:=m) (Good.begin hx)).1).len m7
  refine ⟨_,rfl,_,rfl,t,_,_,_,rfl,rfl,SqT.of ht1,B9 (j:=1) rfl,r,p,st,x,y,s.bs,rfl,s1 _ _ hR,SqL.of hp1,by omega,fun hn=>?_,fun b hb=>?_⟩
  ·refine ⟨_,rfl,rfl,_,rfl,?_⟩
   refine L9 ?_
   refine ⟨_,rfl,t,_,_,_,rfl,rfl,SqT.of ht1,B9 (j:=2) rfl,(by show 2<=sizeLine; decide),fun t2 ht2=>?_⟩
   have s2:=Same.new (o:=.tup [V.str "yes",V.ref qa]) ht2
   exact qy s t2 qa sw _ R hn (s1.trans s2) (s1.none ht2) A6 hq (s2 _ _ hq1) (st1.same s2) e1 l1
  ·refine ⟨_,rfl,rfl,_,rfl,?_⟩
   refine K9 ?_
   refine ⟨_,rfl,(by show 2<=sizeLine; decide),fun t2 ht2=>?_⟩
   exact qn s b t2 _ R hb (s1.trans (Same.new ht2)) (s1.none ht2) A6
noncomputable abbrev Yd:Stmt:=top 17
theorem Adz:FnScope ["many","rules","rule"] ["many","rules","rule"] (B6 Yd):=⟨rfl,rfl,rfl,by decide +kernel,rfl,by decide +kernel,by decide +kernel⟩
theorem Aap {f fFO:Addr} {fd fdFO:FuncData} (F:Fun K "does_follow" "does_follow" Yd f fd) (GFO:FnOk P w K mg base CX0 4 fFO fdFO ["many","rules","rule"] (Yv K)) (mFO:mg "follows" = some (.ref fFO)) (kFO:Θk K fFO) (bFO:Binds K fdFO ["many","rules","rule"] []):FnOk P w K mg base CX0 5 f fd ["many","rules","rule"] (Pi K):=by
 refine F.ok Adz (fun vs H Q E h=>?_) (fun cdv A outer s H vs Q E hr h=>?_)
 ·obtain ⟨m,rl,r,rs,st,x,y,rfl,_⟩:=h
  rfl
 ·obtain ⟨m,rl,r,rs,st,x,y,rfl,m7,hx,hrl,hRs,lr,hR,q⟩:=h
  have hr4:Room 4 _:=hr.mono (by decide)
  refine ⟨_,(B0 (C2 (N4 op_eq (C7 (D5 (K:=K) rfl) (C0 GFO hr4 rfl mFO kFO bFO .nil D1 (A0 (pv 0) (A0 (pv 1) (A0 (pv 2) A7)))) A9 (fun _ _=>rfl)) B7 (D0 _)))),?_⟩
  refine ⟨_,rfl,_,rfl,_,rfl,m,rl,r,rs,st,x,y,rfl,m7,hx,hrl,hRs,lr,hR,fun b t v H1 i1 s1 ht=>?_⟩
  refine ⟨t,_,_,_,rfl,rfl,SqT.of ht,B9 (j:=0) rfl,rfl,?_⟩
  show Q (.bl (decide (V.str (ynS b)=V.str "yes"))) H1
  rw [Ad6]
  exact q b H1 i1 s1
noncomputable abbrev Fp:Stmt:=top 18
theorem Uc:FnScope ["many","rules","some"] ["many","rules","some"] (B6 Fp):=⟨rfl,rfl,rfl,by decide +kernel,rfl,by decide +kernel,by decide +kernel⟩
theorem Oi {f fUN:Addr} {fd fdUN:FuncData} (F:Fun K "settled" "settled" Fp f fd) (GUN:FnOk P w K mg base CX0 3 fUN fdUN ["many","rules","some"] (Ah K)) (mUN:mg "unfolded" = some (.ref fUN)) (kUN:Θk K fUN) (bUN:Binds K fdUN ["many","rules","some"] []):FnOk P w K mg base CX0 4 f fd ["many","rules","some"] (Ii K):=by
 refine F.ok Uc (fun vs H Q E h=>?_) (fun cdv A outer s H vs Q E hr h=>?_)
 ·obtain ⟨m,x,rl,rs,rfl,_⟩:=h
  rfl
 ·obtain ⟨m,x,rl,rs,rfl,m7,hx,hrl,hRs,lr,q⟩:=h
  have hr3:Room 3 _:=hr.mono (by decide)
  refine ⟨_,(B0 (C2 (C7 (D5 (K:=K) rfl) (C0 GUN hr3 rfl mUN kUN bUN .nil D1 (A0 (pv 0) (A0 (pv 1) (A0 (pv 2) A7)))) A9 (fun _ _=>rfl)))),?_⟩
  refine ⟨_,rfl,_,rfl,_,rfl,m,x,rl,rs,rfl,m7,hx,hrl,hRs,lr,fun t p qa s sw H1 R s1 ht ht1 hp hp1 hq hq1 st1 e1 l1 n1=>?_⟩
  exact ⟨t,_,_,_,rfl,rfl,SqT.of ht1,B9 (j:=0) rfl,q s H1 R s1⟩
noncomputable abbrev V1:Stmt:=top 20
theorem scSingle:FnScope ["rules","settling","rule"] ["rules"] (B6 V1):=⟨rfl,rfl,rfl,by decide +kernel,rfl,by decide +kernel,by decide +kernel⟩
theorem Acr:¬Vis (B6 V1) "":=by rintro (h | h | h) <;> exact absurd h (by decide +kernel)
theorem Tm {f fC:Addr} {fd fdC:FuncData} (F:Fun K "single_rules" "single_rules" V1 f fd) (GC:FnOk P w K mg base CX0 2 fC fdC ["some"] Fv) (mC:mg "columns_of" = some (.ref fC)) (kC:Θk K fC) (bC:Binds K fdC ["some"] []):FnOk P w K mg base CX0 3 f fd ["rules"] (Mw K):=by
 refine F.ok scSingle (fun vs H Q E h=>?_) (fun cdv A outer s H vs Q E hr h=>?_)
 ·obtain ⟨m,rl,rs,rfl,_⟩:=h
  rfl
 ·obtain ⟨m,rl,rs,rfl,m7,hrl,hRs,lr,q⟩:=h
  have nd:=scSingle.nd
  have hr2:Room 2 _:=hr.mono (by decide)
  have p7:=Gj m7
  refine ⟨_,(A8 (C3 (i:=1) nd rfl (Or.inl rfl) (D8 A7)) (A8 (L7 PassesOwn.never rfl (F1 (K:=K) rfl (pv 0)) (D3 (i:=2) nd rfl (Or.inr rfl)) (B0 (E3 (C5 op_eq (C7 (D5 (K:=K) rfl) (pv 2) A9 (fun _ _=>rfl)) B7 (D0 _)) (B0 (P0 (G5 PySem.F.plainAttrs_list PySem.F.slot_list_extend PySem.F.type_list_extend Ch (pv 1) (A0 (G9 (xs:=["column"]) (cs ["rules","settling","rule"] (B6 V1) rfl rfl (by decide +kernel)) rfl (F1 (K:=K) rfl (C0 GC hr2 rfl mC kC bC .nil D1 (A0 (B8 Y3 (C7 (D5 (K:=K) rfl) (pv 2) A9 (fun _ _=>rfl)) (Hv Kt (C7 (D5 (K:=K) rfl) (pv 2) A9 (fun _ _=>rfl)))) A7))) (fun _ _ _=>D3 (i:=0) (show (["column","rules","settling","rule"]:List Str).Nodup by decide +kernel) rfl (Or.inl rfl)) (fun _ _ _=>K7) (fun _ _ _=>(G3 (A0 B7 (A0 (C7 (D5 (K:=K) rfl) (pv 3) A9 (fun _ _=>rfl)) (A0 (B8 O9 A9 (pv 0)) A7)))))) A7)))) C9))) (Oq 2 (B0 (C2 (B8 F2 (pv 1) (Aa2 2 (show ¬Vis (B6 V1) "" from Acr) (G9 (xs:=["rule"]) (cs ["rules","settling",""] (B6 V1) rfl rfl (by decide +kernel)) rfl (F1 (K:=K) rfl (pv 0)) (fun _ _ _=>D3 (i:=0) (show (["rule","rules","settling",""]:List Str).Nodup by decide +kernel) rfl (Or.inl rfl)) (fun _ _ _=>(Y4 (C5 op_eq (C7 (D5 (K:=K) rfl) (pv 0) A9 (fun _ _=>rfl)) B7 (D0 _)))) (fun _ _ _=>(pv 0)))))))))),?_⟩
  refine ⟨(by show 0<=sizeLine; exact Zp_ _),fun sl hsl=>?_⟩
  refine ⟨_,rfl,rl,rfl,⟨_,(Same.new hsl).seq hrl⟩,P3 (xs:=rs.map fun r=>V.ref r.r) (fun i σ H'=>(∃v2,σ=[some (.ref rl),some (.ref sl),v2])/\Same H H'/\∃ss:List Rl,H' sl=some (.lst (ss.map fun r=>V.ref r.r))/\ss.map Rl.d=(((rs.take i).map Rl.d).filter fun r=>r.1).flatMap (Ic E1)/\RulesAt H' m ss/\ss.length<=7 * i) ⟨⟨none,rfl⟩,Same.new hsl,[],A6,rfl,(fun r h=>absurd h Zi_),Zd_ _⟩ (fun i σ H' _ h=>h.2.1.seq hrl) ?_ ?_⟩
  ·rintro i v σ H1 hv ⟨⟨v2,rfl⟩,s1,ss,hs1,es,hSs,ls⟩
   rw [Θg] at hv
   cases er:rs[i]? with
   | none=>rw [er] at hv; cases hv
   | some r=>
    rw [er] at hv
    obtain rfl:=(Θo hv).symm
    have hrm:=Θe er
    obtain ⟨r1,r2,r3⟩:=hRs r hrm
    have hR1:=s1 _ _ r1
    have et:(rs.take (i + 1)).map Rl.d=(rs.take i).map Rl.d++[r.d]:=by rw [List.take_succ,er,Zw_]; rfl
    refine ⟨_,rfl,r.r,_,_,_,rfl,rfl,SqT.of hR1,B9 (j:=0) rfl,rfl,_,rfl,?_⟩
    cases est:r.st with
    | false=>
     refine F7 (fun hc=>?_) (fun _=>?_)
     ·exact absurd (Zj_ hc) (by intro z; injection z with z; revert z; decide)
     refine ⟨⟨_,rfl⟩,s1,ss,hs1,?_,hSs,by omega⟩
     rw [es,et,List.filter_append,List.filter_cons_of_neg (by show ¬r.st=true; rw [est]; exact Zf_),List.filter_nil,List.append_nil]
    | true=>
     refine F7 (fun _=>?_) (fun hc=>absurd (Zr_ rfl) hc)
     have hle:r.y - (r.y&&&r.x) < 2 ^ m:=by omega
     have cl:=Sj (r.y - (r.y&&&r.x)) (by omega)
     refine ⟨_,rfl,.inl ⟨rfl,_,SqL.of hs1⟩,_,rfl,r.r,_,_,_,rfl,rfl,SqT.of hR1,B9 (j:=2) rfl,_,rfl,r.r,_,_,_,rfl,rfl,SqT.of hR1,B9 (j:=1) rfl,(r.x:Int),rfl,r.y,r.x,rfl,rfl,r.y - (r.y&&&r.x),rfl,by omega,fun cp hcp=>⟨cp,rfl,⟨_,SqL.of A6⟩,?_⟩⟩
     have sC:=Same.new (o:=.lst ((E1 (r.y - (r.y&&&r.x))).map vN)) hcp
     have hcp2:(upd H1 cp (.lst ((E1 (r.y - (r.y&&&r.x))).map vN))) cp=some (.lst ((E1 (r.y - (r.y&&&r.x))).map vN)):=A6
     generalize upd H1 cp (.lst ((E1 (r.y - (r.y&&&r.x))).map vN))=H2 at sC hcp2
     refine N3 (xs:=(E1 (r.y - (r.y&&&r.x))).map vN) (fun j acc H'=>∃ts:List Rl,acc=(ts.map fun r=>V.ref r.r)/\ts.length=j/\ts.map Rl.d=((E1 (r.y - (r.y&&&r.x))).take j).map (fun c=>((true,r.x,2 ^ c):RD))/\RulesAt H' m ts/\Same H2 H') (by rw [Θl]; omega) ⟨[],rfl,rfl,rfl,(fun r h=>absurd h Zi_),Same.refl _⟩ (fun j acc H' hj h=>?_) (fun j v acc H' hv' h=>?_) (fun acc H' h=>?_)
     ·obtain ⟨ts,rfl,e,_,_,s'⟩:=h
      exact ⟨SqL.of (s' _ _ hcp2),by rw [Θl,e]; exact Zd_ _⟩
     ·obtain ⟨ts,rfl,e,ed,hTs,s'⟩:=h
      rw [Θg] at hv'
      cases ec:(E1 (r.y - (r.y&&&r.x)))[j]? with
      | none=>rw [ec] at hv'; cases hv'
      | some c=>
       rw [ec] at hv'
       obtain rfl:=(Θo hv').symm
       have hc:=(R1 (a:=r.y - (r.y&&&r.x)) (by omega) c).mp (Θe ec)
       have hcm:=Dv hle hc
       have pc2:2 ^ c < 2 ^ m:=Nat.pow_lt_pow_right (by decide) hcm
       refine ⟨rfl,_,rfl,r.r,_,_,_,rfl,rfl,SqT.of ((sC.trans s') _ _ hR1),B9 (j:=1) rfl,_,rfl,c,rfl,rfl,by omega,(by show 3<=sizeLine; decide),fun t ht=>?_⟩
       have sT:=Same.new (o:=.tup [V.str "settle",vN r.x,vN (2 ^ c)]) ht
       refine ⟨ts++[⟨t,true,r.x,2 ^ c⟩],by rw [Zw_]; rfl,by rw [Zv_,e]; rfl,by rw [Zw_,ed,List.take_succ,ec,Zw_]; rfl,fun r' hr'=>?_,s'.trans sT⟩
       rcases Θa hr' with hr' | hr'
       ·exact ⟨sT _ _ (hTs r' hr').1,(hTs r' hr').2⟩
       ·rw [Θs hr']; exact ⟨A6,r2,pc2⟩
     obtain ⟨ts,rfl,e,ed,hTs,s'⟩:=h
     rw [Θl] at e
     rw [Θl,List.take_length] at ed
     intro tp htp
     have sP:=Same.new (o:=.lst (ts.map fun r=>V.ref r.r)) htp
     have hs5:=(sC.trans (s'.trans sP)) _ _ hs1
     refine ⟨sl,tp,_,_,rfl,rfl,hs5,A6,Nat.le_of_lt (D4 (by rw [Θl,Θl]; have:=(Ze_.mp er).1; omega)),?_⟩
     refine ⟨⟨_,rfl⟩,(s1.trans (sC.trans (s'.trans sP))).own hsl,ss++ts,by rw [A6,Zw_],?_,?_,by rw [Zv_]; omega⟩
     ·rw [Zw_,es,ed,et,List.filter_append,List.flatMap_append,List.filter_cons_of_pos (show r.d.1=true from est),List.filter_nil,List.flatMap_cons,List.flatMap_nil,List.append_nil]
      rfl
     ·intro r' hr'
      rcases Θa hr' with hr' | hr'
      ·exact ((hSs.same (sC.trans (s'.trans sP))).put hs5) r' hr'
      ·exact ((hTs.same sP).put hs5) r' hr'
  ·rintro σ H1 ⟨⟨v2,rfl⟩,s1,ss,hs1,es,hSs,ls⟩
   rw [Θl] at ls
   rw [Θl,List.take_length] at es
   refine ⟨_,rfl,(fun v z=>by cases z),_,rfl,rl,rfl,⟨_,s1.seq hrl⟩,N3 (xs:=rs.map fun r=>V.ref r.r) (fun i acc H'=>H' = H1/\∃ds:List Rl,acc=(ds.map fun r=>V.ref r.r)/\ds.length<=i/\ds.map Rl.d=((rs.take i).map Rl.d).filter (fun r=>!r.1)/\∀r∈ds,r∈rs) (by rw [Θl]; omega) ⟨rfl,[],rfl,Zd_ _,rfl,fun r h=>absurd h Zi_⟩ (fun i acc H' hi h=>?_) (fun i v acc H' hv h=>?_) (fun acc H' h=>?_)⟩
   ·obtain ⟨rfl,ds,rfl,e,_⟩:=h
    exact ⟨s1.seq hrl,by rw [Θl]; exact e⟩
   ·obtain ⟨rfl,ds,rfl,e,ed,hds⟩:=h
    rw [Θg] at hv
    cases er:rs[i]? with
    | none=>rw [er] at hv; cases hv
    | some r=>
     rw [er] at hv
     obtain rfl:=(Θo hv).symm
     have hrm:=Θe er
     have et:(rs.take (i + 1)).map Rl.d=(rs.take i).map Rl.d++[r.d]:=by rw [List.take_succ,er,Zw_]; rfl
     refine ⟨rfl,_,rfl,r.r,_,_,_,rfl,rfl,SqT.of (s1 _ _ (hRs r hrm).1),B9 (j:=0) rfl,rfl,_,rfl,?_⟩
     cases est:r.st with
     | true=>
      refine F7 (fun hc=>?_) (fun _=>?_)
      ·exact absurd (Zj_ hc) (by intro z; injection z with z; revert z; decide)
      refine ⟨rfl,ds,rfl,Nat.le_succ_of_le e,?_,hds⟩
      rw [ed,et,List.filter_append,List.filter_cons_of_neg (by show ¬(!r.st)=true; rw [est]; decide),List.filter_nil,List.append_nil]
     | false=>
      refine F7 (fun _=>?_) (fun hc=>absurd (Zr_ rfl) hc)
      refine ⟨_,rfl,rfl,ds++[r],by rw [Zw_]; rfl,by rw [Zv_]; exact Nat.succ_le_succ e,?_,fun r' hr'=>?_⟩
      ·rw [Zw_,ed,et,List.filter_append,List.filter_cons_of_pos (by show (!r.st)=true; rw [est]; rfl),List.filter_nil]; rfl
      ·rcases Θa hr' with hr' | hr'
       ·exact hds r' hr'
       ·rw [Θs hr']; exact hrm
   obtain ⟨rfl,ds,rfl,e,ed,hds⟩:=h
   rw [Θl] at e
   rw [Θl,List.take_length] at ed
   intro dp hdp
   have sD:=Same.new (o:=.lst (ds.map fun r=>V.ref r.r)) hdp
   refine ⟨sl,dp,_,_,rfl,rfl,sD _ _ hs1,A6,Nat.le_of_lt (D4 (by rw [Θl,Θl]; omega)),fun p hp=>?_⟩
   rw [<-Zw_]
   have sP:=Same.new (o:=.lst ((ss++ds).map fun r=>V.ref r.r)) hp
   have sDP:=sD.trans sP
   refine q (ss++ds) p _ (by rw [Zw_,es,ed]; rfl) (fun r hr'=>?_) (by rw [Zv_]; omega) (s1.trans sDP) ((s1.trans sD).none hp) A6
   rcases Θa hr' with hr' | hr'
   ·exact (hSs.same sDP) r hr'
   ·exact ((hRs.same s1).same sDP) r (hds r hr')
end
end Own
namespace Own
open PySem L2
section
variable {P:Program} {w:World} {K:Θf} {mg:Str->Option Value} {base:Heap}
seal PySem.wpAny
noncomputable abbrev Oz:Stmt:=top 21
theorem scLeast:FnScope ["many","rules","least","at","rule","column","shorter"] ["many","rules"] (B6 Oz):=⟨rfl,rfl,rfl,by decide +kernel,rfl,by decide +kernel,by decide +kernel⟩
theorem Wz {f fDF fC:Addr} {fd fdDF fdC:FuncData} (F:Fun K "with_least_lefts" "with_least_lefts" Oz f fd) (GDF:FnOk P w K mg base CX0 5 fDF fdDF ["many","rules","rule"] (Pi K)) (mDF:mg "does_follow" = some (.ref fDF)) (kDF:Θk K fDF) (bDF:Binds K fdDF ["many","rules","rule"] []) (GC:FnOk P w K mg base CX0 2 fC fdC ["some"] Fv) (mC:mg "columns_of" = some (.ref fC)) (kC:Θk K fC) (bC:Binds K fdC ["some"] []) (zlist:mg "list" = none) (zenumerate:mg "enumerate" = none):FnOk P w K mg base CX0 6 f fd ["many","rules"] (Ms K):=by
 refine F.ok scLeast (fun vs H Q E h=>?_) (fun cdv A outer s H vs Q E hr h=>?_)
 ·obtain ⟨m,rl,rs,rfl,_⟩:=h
  rfl
 ·obtain ⟨m,rl,rs,rfl,m7,hrl,hRs,lr,q⟩:=h
  have nd:=scLeast.nd
  have hr2:Room 2 _:=hr.mono (by decide)
  have hr5:Room 5 _:=hr.mono (by decide)
  have p7:=Gj m7
  refine ⟨_,(A8 (C3 (i:=2) nd rfl (Or.inl rfl) (I9 (El (K:=K) rfl) (by rfl) zlist PyProof.Rows.boot_list (A0 (pv 1) A7)))
   (A8 (L7 PassesOwn.never rfl (Dy (K:=K) rfl rfl zenumerate (A0 (pv 1) A7)) (W5 rfl (F3 (D3 (i:=3) nd rfl (Or.inl rfl)) (F3 (D3 (i:=4) nd rfl (Or.inl rfl)) Q6))) (B0 (E3 (C5 op_eq (C7 (D5 (K:=K) rfl) (pv 4) A9 (fun _ _=>rfl)) B7 (D0 _)) (B0 (L7 PassesOwn.never rfl (F1 (K:=K) rfl (C0 GC hr2 rfl mC kC bC .nil D1 (A0 (C7 (D5 (K:=K) rfl) (pv 4) A9 (fun _ _=>rfl)) A7))) (D3 (i:=5) nd rfl (Or.inl rfl)) (A8 (C3 (i:=6) nd rfl (Or.inl rfl) (G3 (A0 B7 (A0 (B8 Y3 (C7 (D5 (K:=K) rfl) (C7 (C6 (K:=K) rfl) (pv 2) (pv 3) (fun _ _=>rfl)) A9 (fun _ _=>rfl)) (Hv Kt (B8 O9 A9 (pv 5)))) (A0 (C7 (D5 (K:=K) rfl) (pv 4) A9 (fun _ _=>rfl)) A7)))))
   (B0 (E3 (O2 (C0 GDF hr5 rfl mDF kDF bDF .nil D1 (A0 (pv 0) (A0 (pv 2) (A0 (pv 6) A7))))) (B0 (Jw (pv 6) (Xq (pv 2) (pv 3) Mn))) C9))))) C9)))
   (B0 (C2 (pv 2))))),?_⟩
  refine ⟨_,rfl,rl,_,rfl,.inl hrl,fun lp hlp=>?_⟩
  have c0:LCoreX H m rs.length rs lp (upd H lp (.lst (rs.map fun r=>V.ref r.r))):=⟨Same.new hlp,hlp,A6,hRs.same (Same.new hlp),rfl⟩
  refine ⟨_,rfl,rl,_,rfl,c0.same.seq hrl,Ar (xs:=rs.map fun r=>V.ref r.r) (fun i σ H'=>(∃v3 v4 v5 v6,σ=[some (vN m),some (.ref rl),some (.ref lp),v3,v4,v5,v6])/\∃ls:List Rl,LCoreX H m rs.length ls lp H'/\ls.map Rl.d=Q3 m (rs.map Rl.d) i) ⟨⟨none,none,none,none,rfl⟩,rs,c0,rfl⟩ (fun i σ H' _ h=>by obtain ⟨_,ls,c,_⟩:=h; exact c.same.seq hrl) ?_ ?_⟩
  ·rintro i v σ H1 t0 hv ⟨⟨v3,v4,v5,v6,rfl⟩,ls,c,els⟩ ht0
   rw [Θg] at hv
   cases er:rs[i]? with
   | none=>rw [er] at hv; cases hv
   | some r=>
    rw [er] at hv
    obtain rfl:=(Θo hv).symm
    have hrm:=Θe er
    have hi:i < rs.length:=(Ze_.mp er).1
    have erd:(rs.map Rl.d)[i]? = some r.d:=by rw [Θg,er]; rfl
    have erA:=Qx erd
    have c1:=c.mono (Same.new (o:=.tup [.int (i:Int),V.ref r.r]) ht0)
    refine ⟨t0,_,rfl,SqT.of A6,rfl,_,_,rfl,_,_,rfl,rfl,?_⟩
    generalize upd H1 t0 (.tup [.int (i:Int),V.ref r.r])=H2 at c1
    obtain ⟨r1,r2,r3⟩:=hRs r hrm
    have hR2:=c1.same _ _ r1
    refine ⟨_,rfl,r.r,_,_,_,rfl,rfl,SqT.of hR2,B9 (j:=0) rfl,rfl,_,rfl,?_⟩
    cases est:r.st with
    | false=>
     refine F7 (fun hc=>?_) (fun _=>?_)
     ·exact absurd (Zj_ hc) (by intro z; injection z with z; revert z; decide)
     refine ⟨⟨_,_,_,_,rfl⟩,ls,c1,?_⟩
     rw [U7,erA,if_neg (by show ¬r.st=true; rw [est]; exact Zf_)]
     exact els
    | true=>
     refine F7 (fun _=>?_) (fun hc=>absurd (Zr_ rfl) hc)
     refine ⟨_,rfl,r.r,_,_,_,rfl,rfl,SqT.of hR2,B9 (j:=1) rfl,r.x,rfl,by omega,fun cp hcp=>?_⟩
     have c2:=c1.mono (Same.new (o:=.lst ((E1 r.x).map vN)) hcp)
     have hcp2:(upd H2 cp (.lst ((E1 r.x).map vN))) cp=some (.lst ((E1 r.x).map vN)):=A6
     have ncl:cp≠lp:=Ne.symm (C4 c1.hp hcp)
     generalize upd H2 cp (.lst ((E1 r.x).map vN))=H3 at c2 hcp2
     have hl0:∃l,ls[i]? = some l/\l.y=r.y:=by
      have h1:(ls.map Rl.d)[i]? = some r.d:=by rw [els,W1 _ _ _ _ (Zd_ _)]; exact erd
      rw [Θg] at h1
      cases e:ls[i]? with
      | none=>rw [e] at h1; cases h1
      | some l=>
       rw [e] at h1
       have h2:l.d=r.d:=Θo h1
       exact ⟨l,rfl,congrArg (fun z:RD=>z.2.2) h2⟩
     refine ⟨cp,rfl,⟨_,SqL.of hcp2⟩,P3 (xs:=(E1 r.x).map vN) (fun n σ H'=>(∃v5 v6,σ=[some (vN m),some (.ref rl),some (.ref lp),some (vN i),some (.ref r.r),v5,v6])/\H' cp=some (.lst ((E1 r.x).map vN))/\∃ls:List Rl,LCoreX H m rs.length ls lp H'/\(∃l,ls[i]? = some l/\l.y=r.y)/\ls.map Rl.d=S0 m i (Q3 m (rs.map Rl.d) i) ((E1 r.x).take n)) ⟨⟨_,_,rfl⟩,hcp2,ls,c2,hl0,els⟩ (fun n σ H' _ h=>SqL.of h.2.1) ?_ ?_⟩
     ·rintro n v σ H4 hv' ⟨⟨v5',v6',rfl⟩,hcp4,ls4,c4,⟨l,hl,ely⟩,e4⟩
      rw [Θg] at hv'
      cases ec:(E1 r.x)[n]? with
      | none=>rw [ec] at hv'; cases hv'
      | some cc=>
       rw [ec] at hv'
       obtain rfl:=(Θo hv').symm
       have hlm:=Θe hl
       obtain ⟨l1,l2,l3⟩:=c4.at_ l hlm
       have hil:i < ls4.length:=(Ze_.mp hl).1
       have hR4:=c4.same _ _ r1
       have hcc:cc < 8:=by
        have:=(R1 (a:=r.x) (by omega) cc).mp (Θe ec)
        have:=Dv r2 this
        omega
       have ets:(E1 r.x).take (n + 1)=(E1 r.x).take n++[cc]:=by rw [List.take_succ,ec]; rfl
       have hl5:(ls4.map Rl.d)[i]? = some l.d:=by rw [Θg,hl]; rfl
       have elA:M8 (ls4.map Rl.d) i=(l.st,l.x,r.y):=by rw [Qx hl5,<-ely]; rfl
       refine ⟨_,rfl,_,rfl,lp,_,_,_,rfl,rfl,SqL.of c4.hp,B9 (j:=i) (v:=V.ref l.r) (by rw [Θg,hl]; rfl),l.r,_,_,_,rfl,rfl,SqT.of l1,B9 (j:=1) rfl,_,rfl,cc,rfl,rfl,by omega,((2 ^ cc:Nat):Int),rfl,l.x,2 ^ cc,rfl,rfl,_,rfl,r.r,_,_,_,rfl,rfl,SqT.of hR4,B9 (j:=2) rfl,(by show 3<=sizeLine; decide),fun sp hsp=>?_⟩
       have sS:=Same.new (o:=.tup [V.str "settle",vN (l.x - (l.x&&&2 ^ cc)),vN r.y]) hsp
       have c5:=c4.mono sS
       have hsp5:K8 (upd H4 sp (.tup [V.str "settle",vN (l.x - (l.x&&&2 ^ cc)),vN r.y])) sp true (P8 l.x cc) r.y:=A6
       have hcp5:=sS _ _ hcp4
       have cbl:P8 l.x cc < 2 ^ m:=by unfold P8; omega
       generalize upd H4 sp (.tup [V.str "settle",vN (l.x - (l.x&&&2 ^ cc)),vN r.y])=H5 at c5 hsp5 hcp5
       refine ⟨_,rfl,_,rfl,_,rfl,m,lp,sp,ls4,true,P8 l.x cc,r.y,rfl,m7,cbl,SqL.of c5.hp,c5.at_,by rw [c5.len]; omega,hsp5,fun b H6 ib s6=>⟨_,rfl,F7 (fun hb=>?_) (fun hb=>?_)⟩⟩
       ·have c6:=c5.mono s6
        have fl:=ib.mp hb
        have hlen6:(ls4.map fun r=>V.ref r.r).length=ls4.length:=Θl ..
        refine ⟨_,rfl,_,rfl,_,rfl,lp,_,(i:Int),i,rfl,rfl,c6.hp,?_,?_⟩
        ·unfold ixN
         rw [if_pos (by omega),if_pos (by rw [hlen6]; omega)]; rfl
        have eset:((ls4.map fun r=>V.ref r.r).set i (V.ref sp))=((ls4.set i ⟨sp,true,P8 l.x cc,r.y⟩).map fun r=>V.ref r.r):=by rw [List.map_set]
        rw [eset]
        refine ⟨⟨_,_,rfl⟩,by rw [C8 ncl]; exact s6 _ _ hcp5,ls4.set i ⟨sp,true,P8 l.x cc,r.y⟩,c6.put (s6 _ _ hsp5) cbl r3,⟨⟨sp,true,P8 l.x cc,r.y⟩,List.getElem?_set_self hil,rfl⟩,?_⟩
        rw [ets,Ay,<-e4,Uj (by rw [elA]; exact fl),elA,List.map_set]; rfl
       ·refine ⟨⟨_,_,rfl⟩,s6 _ _ hcp5,ls4,c5.mono s6,⟨l,hl,ely⟩,?_⟩
        rw [ets,Ay,<-e4,Za (by rw [elA]; exact fun z=>hb (ib.mpr z))]
     ·rintro σ H4 ⟨⟨v5',v6',rfl⟩,hcp4,ls4,c4,_,e4⟩
      rw [Θl,List.take_length] at e4
      refine ⟨⟨_,_,_,_,rfl⟩,ls4,c4,?_⟩
      rw [U7,erA,if_pos (show r.d.1=true from est)]
      exact e4
  ·rintro σ H1 ⟨⟨v3,v4,v5,v6,rfl⟩,ls,c,els⟩
   rw [Θl] at els
   exact ⟨_,rfl,q ls lp H1 els c.at_ (by rw [c.len]; exact lr) c.same c.hp0 c.hp⟩
noncomputable abbrev Yf:Stmt:=top 22
theorem scNeed:FnScope ["many","rules","left","at","others"] ["many","rules"] (B6 Yf):=⟨rfl,rfl,rfl,by decide +kernel,rfl,by decide +kernel,by decide +kernel⟩
theorem Aas {f fDF:Addr} {fd fdDF:FuncData} (F:Fun K "without_needless" "without_needless" Yf f fd) (GDF:FnOk P w K mg base CX0 5 fDF fdDF ["many","rules","rule"] (Pi K)) (mDF:mg "does_follow" = some (.ref fDF)) (kDF:Θk K fDF) (bDF:Binds K fdDF ["many","rules","rule"] []) (zlist:mg "list" = none) (zlen:mg "len" = none):FnOk P w K mg base CX0 6 f fd ["many","rules"] (Rn K):=by
 refine F.ok scNeed (fun vs H Q E h=>?_) (fun cdv A outer s H vs Q E hr h=>?_)
 ·obtain ⟨m,rl,rs,rfl,_⟩:=h
  rfl
 ·obtain ⟨m,rl,rs,rfl,m7,hrl,hRs,lr,q⟩:=h
  have nd:=scNeed.nd
  have hr5:Room 5 _:=hr.mono (by decide)
  refine ⟨_,(A8 (C3 (i:=2) nd rfl (Or.inl rfl) (I9 (El (K:=K) rfl) (by rfl) zlist PyProof.Rows.boot_list (A0 (pv 1) A7)))
   (A8 (C3 (i:=3) nd rfl (Or.inl rfl) A9)
   (A8 (Fi PassesOwn.never (C5 Jt (pv 3) (D7 (E4 (K:=K) rfl) (by rfl) zlen PySem.boot_len (A0 (pv 2) A7)) (D0 _)) (A8 (C3 (i:=4) nd rfl (Or.inl rfl) (B8 F2 (I0 N0 (pv 2) M7 (K6 (pv 3))) (I0 N0 (pv 2) (K6 (B8 G8 (pv 3) A9)) M7)))
   (B0 (E3 (O2 (C0 GDF hr5 rfl mDF kDF bDF .nil D1 (A0 (pv 0) (A0 (pv 4) (A0 (C7 (C6 (K:=K) rfl) (pv 2) (pv 3) (fun _ _=>rfl)) A7))))) (B0 (C3 (i:=2) nd rfl (Or.inl rfl) (pv 4))) (B0 (Adl (i:=3) nd rfl (Or.inl rfl) A9 Acj))))))
   (B0 (C2 (pv 2)))))),?_⟩
  refine ⟨_,rfl,rl,_,rfl,.inl hrl,fun lp0 hlp0=>?_⟩
  refine ⟨fun n σ H'=>∃(ls:List Rl) (lp:Addr) (i:Nat) (v4:Option V),σ=[some (vN m),some (.ref rl),some (.ref lp),some (vN i),v4]/\n=ls.length - i/\Same H H'/\H lp=none/\H' lp=some (.lst (ls.map fun r=>V.ref r.r))/\RulesAt H' m ls/\ls.length<=160/\Q0 m [] (rs.map Rl.d)=Q0 m ((ls.map Rl.d).take i) ((ls.map Rl.d).drop i),⟨_,rs,lp0,0,none,rfl,rfl,Same.new hlp0,hlp0,A6,hRs.same (Same.new hlp0),lr,rfl⟩,?_⟩
  rintro n _ H1 ⟨ls,lp,i,v4,rfl,en,s1,hlp,hl1,hL,ll,ne⟩
  have llm:(ls.map fun r=>V.ref r.r).length=ls.length:=Θl ..
  refine ⟨_,rfl,_,rfl,lp,_,rfl,.inl (SqL.of hl1),i,(ls.map fun r=>V.ref r.r).length,rfl,rfl,_,rfl,F7 (fun hlt=>?_) (fun hge=>?_)⟩
  ·have hi:i < ls.length:=by have:=Zj_ hlt; rwa [llm] at this
   have el:ls[i]? = some ls[i]:=Θh hi
   refine ⟨_,fun _ _ h=>h,?_⟩
   refine ⟨_,rfl,_,rfl,(i:Int),rfl,lp,_,rfl,SqL.of hl1,fun p1 hp1=>?_⟩
   rw [Lg,<-List.map_take]
   have sA:=Same.new (o:=.lst ((ls.take i).map fun r=>V.ref r.r)) hp1
   refine ⟨_,rfl,_,rfl,i,1,rfl,rfl,((i + 1:Nat):Int),rfl,lp,_,rfl,SqL.of (sA _ _ hl1),fun p2 hp2=>?_⟩
   rw [Lf,<-List.map_drop]
   have sB:=Same.new (o:=.lst ((ls.drop (i + 1)).map fun r=>V.ref r.r)) hp2
   refine ⟨p1,p2,(ls.take i).map fun r=>V.ref r.r,(ls.drop (i + 1)).map fun r=>V.ref r.r,rfl,rfl,sB _ _ A6,A6,Nat.le_of_lt (D4 (by rw [Θl,Θl,ZB,List.length_drop]; omega)),fun p3 hp3=>?_⟩
   rw [<-Zw_,<-List.eraseIdx_eq_take_drop_succ]
   have sC:=Same.new (o:=.lst ((ls.eraseIdx i).map fun r=>V.ref r.r)) hp3
   have s3:=(sA.trans sB).trans sC
   have hp3':(upd (upd (upd H1 p1 (.lst ((ls.take i).map fun r=>V.ref r.r))) p2 (.lst ((ls.drop (i + 1)).map fun r=>V.ref r.r))) p3 (.lst ((ls.eraseIdx i).map fun r=>V.ref r.r))) p3=some (.lst ((ls.eraseIdx i).map fun r=>V.ref r.r)):=A6
   have hp3H:H p3=none:=(s1.trans (sA.trans sB)).none hp3
   generalize upd (upd (upd H1 p1 (.lst ((ls.take i).map fun r=>V.ref r.r))) p2 (.lst ((ls.drop (i + 1)).map fun r=>V.ref r.r))) p3 (.lst ((ls.eraseIdx i).map fun r=>V.ref r.r))=H3 at s3 hp3'
   have hE:∀r∈ls.eraseIdx i,r∈ls:=fun r hr'=>List.mem_of_mem_eraseIdx hr'
   have hLE:RulesAt H3 m (ls.eraseIdx i):=fun r hr'=>(hL.same s3) r (hE r hr')
   have lE:(ls.eraseIdx i).length=ls.length - 1:=by rw [List.length_eraseIdx_of_lt hi]
   have edE:(ls.eraseIdx i).map Rl.d=(ls.map Rl.d).eraseIdx i:=by rw [List.eraseIdx_eq_take_drop_succ,List.eraseIdx_eq_take_drop_succ,Zw_,List.map_take,List.map_drop]
   obtain ⟨l1,l2,l3⟩:=(hL.same s3) ls[i] (List.getElem_mem hi)
   refine ⟨_,rfl,_,rfl,_,rfl,_,rfl,lp,_,_,_,rfl,rfl,SqL.of (s3 _ _ hl1),B9 (j:=i) (v:=V.ref ls[i].r) (by rw [Θg,el]; rfl),m,p3,ls[i].r,ls.eraseIdx i,ls[i].st,ls[i].x,ls[i].y,rfl,m7,l2,SqL.of hp3',hLE,by omega,l1,fun b H4 ib s4=>⟨_,rfl,F7 (fun hb=>?_) (fun hb=>?_)⟩⟩
   ·have f:=ib.mp hb
    rw [edE] at f
    have eli:(ls.map Rl.d)[i]? = some ls[i].d:=by rw [Θg,el]; rfl
    refine ⟨_,rfl,(ls.eraseIdx i).length - i,?_,ls.eraseIdx i,p3,i,_,rfl,rfl,(s1.trans s3).trans s4,hp3H,s4 _ _ hp3',hLE.same s4,by omega,?_⟩
    ·rw [en,lE]; omega
    ·rw [edE,<-(Ly eli).1 f]; exact ne
   ·have eli:(ls.map Rl.d)[i]? = some ls[i].d:=by rw [Θg,el]; rfl
    refine ⟨_,rfl,(i:Int),1,rfl,rfl,ls.length - (i + 1),by omega,ls,lp,i + 1,_,rfl,rfl,(s1.trans s3).trans s4,hlp,(s3.trans s4) _ _ hl1,(hL.same s3).same s4,ll,?_⟩
    rw [<-(Ly eli).2 (fun z=>hb (ib.mpr (by rw [edE]; exact z)))]; exact ne
  ·have hi:ls.length<=i:=by
    have:¬i < (ls.map fun r=>V.ref r.r).length:=fun z=>hge (Zr_ z)
    rw [llm] at this
    omega
   refine ⟨_,rfl,q ls lp H1 ?_ hL ll s1 hlp hl1⟩
   rw [ne,List.take_of_length_le (by rw [Θl]; exact hi),List.drop_of_length_le (by rw [Θl]; exact hi)]; rfl
noncomputable abbrev Ou:Stmt:=top 23
theorem Abf:FnScope ["many","rules"] ["many","rules"] (B6 Ou):=⟨rfl,rfl,rfl,by decide +kernel,rfl,by decide +kernel,by decide +kernel⟩
theorem Wt {f fNE fLE fSR:Addr} {fd fdNE fdLE fdSR:FuncData} (F:Fun K "cover" "cover" Ou f fd) (GNE:FnOk P w K mg base CX0 6 fNE fdNE ["many","rules"] (Rn K)) (mNE:mg "without_needless" = some (.ref fNE)) (kNE:Θk K fNE) (bNE:Binds K fdNE ["many","rules"] []) (GLE:FnOk P w K mg base CX0 6 fLE fdLE ["many","rules"] (Ms K)) (mLE:mg "with_least_lefts" = some (.ref fLE)) (kLE:Θk K fLE) (bLE:Binds K fdLE ["many","rules"] []) (GSR:FnOk P w K mg base CX0 3 fSR fdSR ["rules"] (Mw K)) (mSR:mg "single_rules" = some (.ref fSR)) (kSR:Θk K fSR) (bSR:Binds K fdSR ["rules"] []):FnOk P w K mg base CX0 7 f fd ["many","rules"] (Mp K):=by
 refine F.ok Abf (fun vs H Q E h=>?_) (fun cdv A outer s H vs Q E hr h=>?_)
 ·obtain ⟨m,rl,rs,rfl,_⟩:=h
  rfl
 ·obtain ⟨m,rl,rs,rfl,m7,hrl,hRs,lr,q⟩:=h
  have hr6:Room 6 _:=hr.mono (by decide)
  have hr3:Room 3 _:=hr.mono (by decide)
  refine ⟨_,(B0 (C2 (C0 GNE hr6 rfl mNE kNE bNE .nil D1 (A0 (pv 0) (A0 (C0 GLE hr6 rfl mLE kLE bLE .nil D1 (A0 (pv 0) (A0 (C0 GSR hr3 rfl mSR kSR bSR .nil D1 (A0 (pv 1) A7)) A7))) A7))))),?_⟩
  refine ⟨_,rfl,_,rfl,_,rfl,m,rl,rs,rfl,m7,hrl,hRs,lr,fun ss p1 H1 es hSs l1 s1 hp1 hp1'=>?_⟩
  refine ⟨m,p1,ss,rfl,m7,SqL.of hp1',hSs,l1,fun ls p2 H2 LP hLs l2 s2 hp2 hp2'=>?_⟩
  refine ⟨m,p2,ls,rfl,m7,SqL.of hp2',hLs,l2,fun cs p3 H3 NP hCs l3 s3 hp3 hp3'=>?_⟩
  refine q cs p3 H3 ?_ hCs l3 ((s1.trans s2).trans s3) ((s1.trans s2).none hp3) hp3'
  have el:ss.length=(Bo E1 (rs.map Rl.d)).length:=by rw [<-es,Θl]
  rw [NP,LP,es,el]; rfl
end
end Own
namespace Own
open PySem L2
section
variable {P:Program} {w:World} {K:Θf} {mg:Str->Option Value} {base:Heap}
seal PySem.wpAny
noncomputable abbrev Ea:Stmt:=top 59
theorem scIsName:FnScope ["word"] ["word"] (B6 Ea):=⟨rfl,rfl,rfl,by decide +kernel,rfl,by decide +kernel,by decide +kernel⟩
theorem Th {f RWA:Addr} {fd:FuncData} {tkLN tkLE:PySem.Tok} (F:Fun K "is_name" "is_name" Ea f fd) (mLN:mg "LONGEST_NAME" = some (.int 8 tkLN)) (mLE:mg "LETTERS" = some (.str letS tkLE)) (mRWW:mg "RULE_WORDS" = some (.ref RWA)) (hRW:RWT K RWA) (zlen:mg "len" = none) (zall:mg "all" = none):FnOk P w K mg base CX0 1 f fd ["word"] Mq:=by
 refine F.ok scIsName (fun vs H Q E h=>?_) (fun cdv A outer s H vs Q E hr h=>?_)
 ·obtain ⟨z,rfl,_⟩:=h
  rfl
 ·obtain ⟨z,rfl,⟨lz,az⟩,q⟩:=h
  have nd:=scIsName.nd
  have sz:=sizeLine_eq
  refine ⟨_,(A8 (E3 (PW.pt (Bh (C5 op_eq (pv 0) B7 (D0 _)) (Bh (C5 Ci (D7 (Uz) (by rfl) zlen PySem.boot_len (A0 (pv 0) A7)) (L3 (v:=vN 8) (by rfl) mLN ⟨_,rfl⟩) (D0 _)) (Cl (C5 (Js (K:=K) rfl) (pv 0) (L3 (v:=.ref RWA) (by rfl) mRWW rfl) (by rfl)))))) (B0 (C2 W4)) C9)
   (B0 (C2 (D7 (Bx (K:=K) rfl rfl) (by rfl) zall PyProof.Rows.boot_all (A0 (G9 (xs:=["sign"]) (cs ["word"] (B6 Ea) rfl rfl (by decide +kernel)) rfl (Adi (pv 0)) (fun _ _ _=>D3 (i:=0) (show (["sign","word"]:List Str).Nodup by decide +kernel) rfl (Or.inl rfl)) (fun _ _ _=>K7) (fun _ _ _=>(N4 Tq (pv 0) (L3 (v:=.str letS) (by rfl) mLE ⟨_,rfl⟩) (by rfl)))) A7))))),?_⟩
  refine ⟨_,rfl,rfl,_,rfl,?_⟩
  refine F7 (fun h0=>?_) (fun h0=>?_)
  ·refine L9 ?_
   have e:z=noS:=by
    have:=Zj_ h0
    injection this
   have:=q H (Same.refl _)
   rw [e] at this
   exact this
  have z1:1<=z.length:=Nat.pos_of_ne_zero fun e=>h0 (Zr_ (by
   have:z=noS:=by
    cases z with | mk a=>
    have e':a.size=0:=e
    rw [Array.eq_empty_of_size_eq_zero e']; rfl
   rw [this]; rfl))
  refine ⟨_,rfl,_,_,rfl,⟨by omega,rfl⟩,z.length,8,rfl,rfl,_,rfl,?_⟩
  refine F7 (fun h8=>?_) (fun h8=>?_)
  ·refine L9 ?_
   have e:S1 z=false:=by
    unfold S1
    rw [decide_eq_false (p:=z.length<=8) (by have:=Zj_ h8; omega)]
    simp
   rw [<-e]
   exact q H (Same.refl _)
  have z8:z.length<=8:=Nat.le_of_not_lt fun c=>h8 (Zr_ c)
  refine ⟨_,rfl,RWA,_,rfl,.inr (hRW _),rfl,rfl,_,rfl,?_⟩
  rw [if_neg Zf_,Vt]
  refine F7 (fun hw=>?_) (fun hw=>?_)
  ·have e:S1 z=false:=by
    unfold S1
    rw [hw]
    simp
   rw [<-e]
   exact q H (Same.refl _)
  have hw:P4 z=false:=Bool.eq_false_iff.mpr hw
  refine ⟨_,rfl,z,rfl,az,Acp (fun i acc H'=>H' = H/\acc=((z.cps.toList.take i).map Ss).map V.bl) (by omega) ⟨rfl,rfl⟩ (fun i acc H' hi h=>?_) (fun i c acc H' hc h=>?_) (fun acc H' h=>?_)⟩
  ·obtain ⟨rfl,rfl⟩:=h
   rw [Θl,Θl]
   exact List.length_take_le _ _
  ·obtain ⟨rfl,rfl⟩:=h
   refine ⟨rfl,_,rfl,_,_,rfl,rfl,rfl,?_⟩
   rw [Nq c (az c (Θe hc)),List.take_succ,hc,Zw_,Zw_]
   rfl
  obtain ⟨rfl,rfl⟩:=h
  intro l hl
  refine ⟨l,(z.cps.toList.take z.length).map Ss,rfl,SqL.of A6,?_⟩
  have e:((z.cps.toList.take z.length).map Ss).all id=S1 z:=by
   have et:z.cps.toList.take z.length=z.cps.toList:=List.take_of_length_le (by rw [Zz_]; exact Zd_ _)
   unfold S1
   rw [et,hw,Zr_ z1,Zr_ z8,List.all_map]
   rfl
  rw [e]
  exact q _ (Same.new hl)
noncomputable abbrev Y5:Stmt:=top 60
theorem scAreNames:FnScope ["words"] ["words"] (B6 Y5):=⟨rfl,rfl,rfl,by decide +kernel,rfl,by decide +kernel,by decide +kernel⟩
theorem Mc {f fISN:Addr} {fd fdISN:FuncData} {tkMC:PySem.Tok} (F:Fun K "are_names" "are_names" Y5 f fd) (GISN:FnOk P w K mg base CX0 1 fISN fdISN ["word"] Mq) (mISN:mg "is_name" = some (.ref fISN)) (kISN:Θk K fISN) (bISN:Binds K fdISN ["word"] []) (mMC:mg "MOST_COLUMNS" = some (.int 7 tkMC)) (zlen:mg "len" = none) (zall:mg "all" = none) (zset:mg "set" = none):FnOk P w K mg base CX0 2 f fd ["words"] (Ft K):=by
 refine F.ok scAreNames (fun vs H Q E h=>?_) (fun cdv A outer s H vs Q E hr h=>?_)
 ·obtain ⟨wp,ws,rfl,_⟩:=h
  rfl
 ·obtain ⟨wp,ws,rfl,hw,lw,aw,q⟩:=h
  have nd:=scAreNames.nd
  have hr1:Room 1 _:=hr.mono (by decide)
  have lm:(ws.map V.str).length=ws.length:=Θl ..
  refine ⟨_,(A8 (E3 (PW.pt (Bh (C5 (Jr (K:=K) rfl hr.units) (pv 0) (D8 A7) (D0 _)) (Bh (C5 Ci (D7 (E4 (K:=K) rfl) (by rfl) zlen PySem.boot_len (A0 (pv 0) A7)) (L3 (v:=vN 7) (by rfl) mMC ⟨_,rfl⟩) (D0 _)) (Cl (C5 Jt (D7 Ni (by rfl) zlen PySem.boot_len (A0 (I9 (Sf (K:=K) rfl rfl) (by rfl) zset PyProof.Rows.boot_set (A0 (pv 0) A7)) A7)) (D7 (E4 (K:=K) rfl) (by rfl) zlen PySem.boot_len (A0 (pv 0) A7)) (D0 _)))))) (B0 (C2 W4)) C9)
   (B0 (C2 (D7 (Bx (K:=K) rfl rfl) (by rfl) zall PyProof.Rows.boot_all (A0 (G9 (xs:=["word"]) (cs ["words"] (B6 Y5) rfl rfl (by decide +kernel)) rfl (F1 (K:=K) rfl (pv 0)) (fun _ _ _=>D3 (i:=0) (show (["word","words"]:List Str).Nodup by decide +kernel) rfl (Or.inl rfl)) (fun _ _ _=>K7) (fun _ _ _=>(C0 GISN hr1 rfl mISN kISN bISN .nil D1 (A0 (pv 0) A7)))) A7))))),?_⟩
  refine ⟨_,rfl,(by show 0<=sizeLine; decide),fun e0 he0=>?_⟩
  have s1:=Same.new (o:=.lst []) he0
  have h0:(upd H e0 (.lst [])) e0=some (.lst []):=A6
  generalize upd H e0 (.lst [])=H1 at s1 h0
  refine ⟨.list (ws.map PyData.str),.list (([]:List Str).map PyData.str),.lst (s1.seq hw) (Bt ws),.lst (SqL.of h0) .nil,N9 (fun w hw c hc=>Nat.lt_trans ((aw w hw).2 c hc) (by decide)),N9 (fun w hw=>absurd hw Zi_),Z9 Fa _ _,_,rfl,?_⟩
  rw [if_neg Zf_,Cp Km]
  refine F7 (fun hc=>?_) (fun hc=>?_)
  ·refine L9 ?_
   have e:ws=[]:=Zj_ hc
   have e2:K4 ws=false:=by rw [e]; rfl
   rw [<-e2]
   exact q _ s1
  have w0:ws≠[]:=fun e=>hc (Zr_ e)
  refine ⟨_,rfl,wp,_,rfl,.inl (s1.seq hw),(ws.map V.str).length,7,rfl,rfl,_,rfl,?_⟩
  rw [lm]
  refine F7 (fun hc=>?_) (fun hc=>?_)
  ·refine L9 ?_
   have e2:K4 ws=false:=by
    unfold K4
    rw [decide_eq_false (p:=ws.length<=7) (by have:=Zj_ hc; omega)]
    simp
   rw [<-e2]
   exact q _ s1
  have w7:ws.length<=7:=Nat.le_of_not_lt fun c=>hc (Zr_ c)
  refine ⟨_,rfl,wp,ws,rfl,s1.seq hw,by omega,fun l hl=>?_⟩
  have s2:=s1.trans (Same.new (o:=ssO P w l (K0 ws).length) hl)
  have hl2:(upd H1 l (ssO P w l (K0 ws).length)) l=some (ssO P w l (K0 ws).length):=A6
  have dl:=Li ws
  refine ⟨l,(K0 ws).length,rfl,hl2,by omega,_,rfl,wp,_,rfl,.inl (s2.seq hw),(K0 ws).length,(ws.map V.str).length,rfl,rfl,_,rfl,?_⟩
  rw [lm]
  have hgen:∀H2:Hp,H2=upd H1 l (ssO P w l (K0 ws).length)->Same H H2:=fun H2 e=>by rw [e]; exact s2
  generalize hHH:upd H1 l _=H2
  replace s2:=hgen H2 hHH.symm
  clear hgen hHH hl2
  refine F7 (fun hc=>?_) (fun hc=>?_)
  ·have e2:K4 ws=false:=by
    unfold K4
    rw [decide_eq_false (p:=ws.Nodup) (fun z=>by have:=Zj_ hc; have:=dl.2.mpr z; omega)]
    simp
   rw [<-e2]
   exact q _ s2
  have wn:ws.Nodup:=dl.2.mp (by have:¬(K0 ws).length < ws.length:=fun c=>hc (Zr_ c); omega)
  refine ⟨_,rfl,wp,rfl,⟨_,s2.seq hw⟩,N3 (K:=K) (xs:=ws.map V.str) (fun j acc H'=>Same H H'/\acc=((ws.take j).map S1).map V.bl) (by omega) ⟨s2,rfl⟩ (fun j acc H' hj h=>?_) (fun j v acc H' hv h=>?_) (fun acc H' h=>?_)⟩
  ·obtain ⟨s3,rfl⟩:=h
   exact ⟨s3.seq hw,by rw [Θl,Θl]; exact List.length_take_le _ _⟩
  ·obtain ⟨s3,rfl⟩:=h
   rw [Θg] at hv
   cases ec:ws[j]? with
   | none=>rw [ec] at hv; cases hv
   | some x=>
    rw [ec] at hv
    obtain rfl:=(Θo hv).symm
    refine ⟨rfl,_,rfl,x,rfl,aw x (Θe ec),fun H4 s4=>⟨s3.trans s4,?_⟩⟩
    rw [List.take_succ,ec,Zw_,Zw_]
    rfl
  obtain ⟨s3,rfl⟩:=h
  rw [lm,List.take_length]
  intro l2 hl2
  refine ⟨l2,ws.map S1,rfl,SqL.of A6,?_⟩
  have e2:(ws.map S1).all id=K4 ws:=by
   unfold K4
   rw [Zr_ w7,Zr_ wn,List.all_map,show ws.isEmpty=false from List.isEmpty_eq_false_iff.mpr w0]
   rfl
  rw [e2]
  exact q _ (s3.trans (Same.new hl2))
noncomputable abbrev Ads:Stmt:=top 63
theorem scFRW:FnScope ["words","at","word"] ["words"] (B6 Ads):=⟨rfl,rfl,rfl,by decide +kernel,rfl,by decide +kernel,by decide +kernel⟩
theorem Acy {f RWA:Addr} {fd:FuncData} (F:Fun K "first_rule_word" "first_rule_word" Ads f fd) (mRWW:mg "RULE_WORDS" = some (.ref RWA)) (hRW:RWT K RWA) (zenumerate:mg "enumerate" = none):FnOk P w K mg base CX0 1 f fd ["words"] (Ab1 K):=by
 refine F.ok scFRW (fun vs H Q E h=>?_) (fun cdv A outer s H vs Q E hr h=>?_)
 ·obtain ⟨wp,ws,rfl,_⟩:=h
  rfl
 ·obtain ⟨wp,ws,rfl,hw,lw,q1,q0⟩:=h
  have nd:=scFRW.nd
  have lm:(ws.map V.str).length=ws.length:=Θl ..
  refine ⟨_,(A8 (L7 PassesOwn.never rfl (Dy (K:=K) rfl rfl zenumerate (A0 (pv 0) A7)) (W5 rfl (F3 (D3 (i:=1) nd rfl (Or.inl rfl)) (F3 (D3 (i:=2) nd rfl (Or.inl rfl)) Q6))) (B0 (E3 (C5 (Js (K:=K) rfl) (pv 2) (L3 (v:=.ref RWA) (by rfl) mRWW rfl) (by rfl)) (B0 (C2 (pv 1))) C9)))
   (B0 (C2 K5))),?_⟩
  refine ⟨_,rfl,wp,_,rfl,hw,Ar (xs:=ws.map V.str) (fun i σ H'=>(∃v1 v2,σ=[some (.ref wp),v1,v2])/\Same H H'/\∀v∈ws.take i,P4 v=false) ⟨⟨_,_,rfl⟩,Same.refl _,fun v hv=>by rw [List.take_zero] at hv; cases hv⟩ (fun i σ H' _ h=>h.2.1.seq hw) ?_ ?_⟩
  ·rintro i v σ H' t hv ⟨⟨v1,v2,rfl⟩,s1,hno⟩ ht
   rw [Θg] at hv
   cases ec:ws[i]? with
   | none=>rw [ec] at hv; cases hv
   | some x=>
    rw [ec] at hv
    obtain rfl:=(Θo hv).symm
    refine ⟨t,_,rfl,SqT.of A6,rfl,_,_,rfl,_,_,rfl,rfl,?_⟩
    have s2:=s1.trans (Same.new (o:=.tup [.int (i:Int),V.str x]) ht)
    refine ⟨_,rfl,RWA,_,rfl,.inr (hRW _),rfl,rfl,_,rfl,?_⟩
    rw [if_neg Zf_,Vt]
    refine F7 (fun hc=>?_) (fun hc=>?_)
    ·exact ⟨_,rfl,q1 i x ec hc hno _ s2⟩
    ·refine ⟨⟨_,_,rfl⟩,s2,fun v hv=>?_⟩
     rw [List.take_succ,ec] at hv
     rcases Θa hv with hv | hv
     ·exact hno v hv
     ·rw [Θs hv]; exact Bool.eq_false_iff.mpr hc
  ·rintro σ H' ⟨⟨v1,v2,rfl⟩,s1,hno⟩
   rw [lm,List.take_length] at hno
   exact q0 hno _ s1
noncomputable abbrev Ae:Stmt:=top 64
theorem scReadNames:FnScope ["line","words"] ["line"] (B6 Ae):=⟨rfl,rfl,rfl,by decide +kernel,rfl,by decide +kernel,by decide +kernel⟩
theorem Jq {f fAN:Addr} {fd fdAN:FuncData} (F:Fun K "read_names" "read_names" Ae f fd) (GAN:FnOk P w K mg base CX0 2 fAN fdAN ["words"] (Ft K)) (mAN:mg "are_names" = some (.ref fAN)) (kAN:Θk K fAN) (bAN:Binds K fdAN ["words"] []):FnOk P w K mg base CX0 3 f fd ["line"] Bq:=by
 refine F.ok scReadNames (fun vs H Q E h=>?_) (fun cdv A outer s H vs Q E hr h=>?_)
 ·obtain ⟨t,rfl,_⟩:=h
  rfl
 ·obtain ⟨t,rfl,lt,at_,q,q0⟩:=h
  have nd:=scReadNames.nd
  have hr2:Room 2 _:=hr.mono (by decide)
  have ls:=V3 t 32
  have as:=Il (c:=32) (by omega:t.length<=1000) at_
  have ne:=Gd (x:=t) (c:=32)
  refine ⟨_,(A8 (C3 (i:=1) nd rfl (Or.inl rfl) (G5 PySem.F.plainAttrs_str PySem.F.slot_str_split PySem.F.type_str_split T9 (pv 0) (A0 B7 A7)))
   (A8 (E3 (PW.pt (Bh (C5 op_ne (C7 (C6 (K:=K) rfl) (pv 1) A9 (fun _ _=>rfl)) B7 (D0 _)) (Cl (W6 (O2 (C0 GAN hr2 rfl mAN kAN bAN .nil D1 (A0 (I0 N0 (pv 1) (K6 A9) M7) A7))))))) (B0 (C2 K5)) C9)
   (B0 (C2 (I0 N0 (pv 1) (K6 A9) M7))))),?_⟩
  refine ⟨_,rfl,rfl,t,spaceS,rfl,rfl,rfl,by omega,(by show (Txt.split t ⟨#[32]⟩).length<=1000; omega),fun wl hwl=>?_⟩
  have es:Txt.split t spaceS=Txt.split t ⟨#[32]⟩:=rfl
  rw [es] at q q0 ⊢
  generalize Txt.split t ⟨#[32]⟩=words at q q0 ls as ne
  cases words with
  | nil=>exact absurd rfl ne
  | cons x ws=>
   have lw:ws.length<=290:=by rw [ZA] at ls; omega
   have s1:=Same.new (o:=.lst ((x :: ws).map V.str)) hwl
   have h1:(upd H wl (.lst ((x :: ws).map V.str))) wl=some (.lst (V.str x :: ws.map V.str)):=A6
   generalize upd H wl (.lst ((x :: ws).map V.str))=H1 at s1 h1
   refine ⟨_,rfl,wl,_,_,_,rfl,rfl,SqL.of h1,B9 (j:=0) rfl,rfl,_,rfl,?_⟩
   refine F7 (fun hc=>?_) (fun hc=>?_)
   ·refine L9 ?_
    have xn:x≠columnsS:=fun e=>by
     rw [e] at hc
     exact absurd hc (by decide)
    exact q0 (fun ws' e=>by injection e with e1 _; exact absurd e1 xn) _ s1
   have xe:x=columnsS:=Classical.byContradiction fun z=>hc (by
    rw [Bool.not_eq_true',decide_eq_false_iff_not]
    intro e
    injection e with e
    exact z e)
   subst xe
   refine ⟨_,rfl,1,rfl,wl,_,rfl,SqL.of h1,fun p hp=>?_⟩
   rw [Gw]
   have s2:=s1.trans (Same.new (o:=.lst (ws.map V.str)) hp)
   have h2:(upd H1 p (.lst (ws.map V.str))) p=some (.lst (ws.map V.str)):=A6
   have h1':=(Same.new (o:=.lst (ws.map V.str)) hp) _ _ h1
   generalize upd H1 p (.lst (ws.map V.str))=H2 at s2 h2 h1'
   refine ⟨p,ws,rfl,SqL.of h2,by omega,(fun w hw=>as w (Θd _ hw)),fun H3 s3=>?_⟩
   have s23:=s2.trans s3
   cases nb:K4 ws with
   | false=>
    refine ⟨_,rfl,L9 ?_⟩
    exact q0 (fun ws' e=>by injection e with _ e2; rw [<-e2]; exact nb) _ s23
   | true=>
    refine ⟨_,rfl,K9 ?_⟩
    refine ⟨_,rfl,1,rfl,wl,_,rfl,SqL.of (s3 _ _ h1'),fun p2 hp2=>?_⟩
    rw [Gw]
    exact q ws p2 _ rfl nb (s23.trans (Same.new hp2)) (s23.none hp2) A6
end
end Own
namespace Own
open PySem L2
section
variable {P:Program} {w:World} {K:Θf} {mg:Str->Option Value} {base:Heap}
seal PySem.wpAny
noncomputable abbrev Yh:Stmt:=top 61
theorem scSetN:FnScope ["names","words","some","word","column"] ["names","words"] (B6 Yh):=⟨rfl,rfl,rfl,by decide +kernel,rfl,by decide +kernel,by decide +kernel⟩
theorem Aau {f:Addr} {fd:FuncData} (F:Fun K "set_named" "set_named" Yh f fd):FnOk P w K mg base CX0 1 f fd ["names","words"] (Ag K):=by
 refine F.ok scSetN (fun vs H Q E h=>?_) (fun cdv A outer s H vs Q E hr h=>?_)
 ·obtain ⟨np,wp,nms,ws,rfl,_⟩:=h
  rfl
 ·obtain ⟨np,wp,nms,ws,rfl,hn,NN,hw,lw,qs,qn⟩:=h
  have nd:=scSetN.nd
  have lwm:(ws.map V.str).length=ws.length:=Θl ..
  have p7:=Gj NN.l7
  refine ⟨_,(A8 (C3 (i:=2) nd rfl (Or.inl rfl) A9)
   (A8 (L7 PassesOwn.never rfl (F1 (K:=K) rfl (pv 1)) (D3 (i:=3) nd rfl (Or.inl rfl)) (A8 (E3 (C5 V0 (pv 3) (pv 0) (by rfl)) (B0 (C2 K5)) C9)
   (A8 (C3 (i:=4) nd rfl (Or.inl rfl) (Ade (K:=K) rfl PySem.F.plainAttrs_list PySem.F.slot_list_index PySem.F.type_list_index (Sw (K:=K) rfl) (pv 0) (A0 (pv 3) A7)))
   (A8 (E3 (C5 Ac6 (B8 O9 A9 (pv 4)) (pv 2) (D0 _)) (B0 (C2 K5)) C9)
   (B0 (C3 (i:=2) nd rfl (Or.inl rfl) (B8 Ju (pv 2) (B8 O9 A9 (pv 4)))))))))
   (B0 (C2 (pv 2))))),?_⟩
  refine ⟨_,rfl,wp,rfl,⟨_,hw⟩,P3 (K:=K) (xs:=ws.map V.str) (fun i σ H'=>H' = H/\∃(a:Nat) (v3 v4:Option V),σ=[some (.ref np),some (.ref wp),some (vN a),v3,v4]/\a < 2 ^ nms.length/\ws.take i=E6 nms a) ⟨rfl,0,none,none,rfl,Nat.two_pow_pos _,rfl⟩ (fun i σ H' _ h=>by rw [h.1]; exact hw) ?_ ?_⟩
  ·rintro i v σ H' hv ⟨rfl,a,v3,v4,rfl,ha,et⟩
   rw [Θg] at hv
   cases ew:ws[i]? with
   | none=>rw [ew] at hv; cases hv
   | some x=>
    rw [ew] at hv
    obtain rfl:=(Θo hv).symm
    refine ⟨_,rfl,_,rfl,np,_,rfl,.inl hn,rfl,Aq _,_,rfl,?_⟩
    rw [if_pos rfl,Av]
    by_cases hx:x∈nms
    ·rw [Zr_ hx]
     refine K9 ?_
     obtain ⟨k,hk⟩:=List.getElem?_of_mem hx
     have hkl:k < nms.length:=(Ze_.mp hk).1
     have exk:x=nms.getD k noS:=by rw [Zu_,hk]; rfl
     have pk:2 ^ k < 2 ^ nms.length:=Nat.pow_lt_pow_right (by decide) hkl
     refine ⟨_,rfl,.inl ⟨rfl,_,hn⟩,_,rfl,np,nms,k,rfl,hn,by have:=NN.l7; omega,NN.nd,hkl,by rw [exk],?_⟩
     have k7:=NN.l7
     refine ⟨_,rfl,k,rfl,rfl,by omega,_,rfl,2 ^ k,a,rfl,rfl,_,rfl,F7 (fun hc=>?_) (fun hc=>?_)⟩
     ·have hc:=Zj_ hc
      refine qn fun s hs e=>?_
      obtain ⟨k',hk',ek',lt⟩:=Qq NN hs ha e et ew
      rw [exk] at ek'
      have:=Jo NN hkl hk' ek'
      subst this
      omega
     ·have hc:a < 2 ^ k:=Nat.lt_of_not_le fun z=>hc (Zr_ z)
      refine ⟨_,rfl,_,rfl,k,rfl,rfl,by omega,a,2 ^ k,rfl,rfl,rfl,a|||2 ^ k,_,_,rfl,Nat.or_lt_two_pow ha pk,?_⟩
      rw [List.take_succ,ew,et,Abx NN hkl hc,<-exk]
      rfl
    ·rw [decide_eq_false hx]
     refine L9 (qn fun s hs e=>hx ?_)
     rw [e] at ew
     exact N2 NN hs (Θe ew)
  ·rintro σ H' ⟨rfl,a,v3,v4,rfl,ha,et⟩
   rw [lwm,List.take_length] at et
   exact ⟨_,rfl,qs a ha et⟩
noncomputable abbrev Bm:Stmt:=top 62
theorem scNamesIn:FnScope ["names","some"] ["names","some"] (B6 Bm):=⟨rfl,rfl,rfl,by decide +kernel,rfl,by decide +kernel,by decide +kernel⟩
theorem Oe {f fC:Addr} {fd fdC:FuncData} (F:Fun K "names_in" "names_in" Bm f fd) (GC:FnOk P w K mg base CX0 2 fC fdC ["some"] Fv) (mC:mg "columns_of" = some (.ref fC)) (kC:Θk K fC) (bC:Binds K fdC ["some"] []):FnOk P w K mg base CX0 3 f fd ["names","some"] (Q9 K):=by
 refine F.ok scNamesIn (fun vs H Q E h=>?_) (fun cdv A outer s H vs Q E hr h=>?_)
 ·obtain ⟨np,nms,z,rfl,_⟩:=h
  rfl
 ·obtain ⟨np,nms,z,rfl,hn,NN,hz,q⟩:=h
  have nd:=scNamesIn.nd
  have hr2:Room 2 _:=hr.mono (by decide)
  have z128:=P7 NN hz
  refine ⟨_,(B0 (C2 (G9 (xs:=["column"]) (cs ["names","some"] (B6 Bm) rfl rfl (by decide +kernel)) rfl (F1 (K:=K) rfl (C0 GC hr2 rfl mC kC bC .nil D1 (A0 (pv 1) A7))) (fun _ _ _=>D3 (i:=0) (show (["column","names","some"]:List Str).Nodup by decide +kernel) rfl (Or.inl rfl)) (fun _ _ _=>K7) (fun _ _ _=>(C7 (C6 (K:=K) rfl) (pv 1) (pv 0) (fun _ _=>rfl)))))),?_⟩
  refine ⟨_,rfl,z,rfl,by omega,fun p hp=>⟨p,rfl,⟨_,SqL.of A6⟩,?_⟩⟩
  have s1:=Same.new (o:=.lst ((E1 z).map vN)) hp
  have hp1:(upd H p (.lst ((E1 z).map vN))) p=some (.lst ((E1 z).map vN)):=A6
  generalize upd H p (.lst ((E1 z).map vN))=H1 at s1 hp1
  have lc:((E1 z).map vN).length<=7:=by
   have:=Q4 NN hz
   unfold E6 at this
   rw [Θl] at this ⊢
   exact this
  refine N3 (K:=K) (xs:=(E1 z).map vN) (fun j acc H2=>H2=H1/\acc=(((E1 z).take j).map fun c=>nms.getD c noS).map V.str) (by omega) ⟨rfl,rfl⟩ (fun j acc H2 hj h=>?_) (fun j v acc H2 hv h=>?_) (fun acc H2 h=>?_)
  ·obtain ⟨rfl,rfl⟩:=h
   exact ⟨SqL.of hp1,by rw [Θl,Θl]; exact List.length_take_le _ _⟩
  ·obtain ⟨rfl,rfl⟩:=h
   rw [Θg] at hv
   cases ec:(E1 z)[j]? with
   | none=>rw [ec] at hv; cases hv
   | some c=>
    rw [ec] at hv
    obtain rfl:=(Θo hv).symm
    have hc:=U6 NN hz (Θe ec)
    refine ⟨rfl,_,rfl,_,rfl,np,_,_,_,rfl,rfl,s1.seq hn,B9 (j:=c) (v:=V.str (nms.getD c noS)) (by rw [Θg,(G1 hc).2]; rfl),rfl,?_⟩
    rw [List.take_succ,ec,Zw_,Zw_]
    rfl
  obtain ⟨rfl,rfl⟩:=h
  rw [Θl,List.take_length]
  intro l hl
  exact q l _ (s1.trans (Same.new hl)) (s1.free hl) A6
noncomputable abbrev Cn:Stmt:=top 65
theorem scReadRule:FnScope ["names","line","words","at","left","right"] ["names","line"] (B6 Cn):=⟨rfl,rfl,rfl,by decide +kernel,rfl,by decide +kernel,by decide +kernel⟩
theorem Me {f fFR fSN:Addr} {fd fdFR fdSN:FuncData} (F:Fun K "read_rule" "read_rule" Cn f fd) (GFR:FnOk P w K mg base CX0 1 fFR fdFR ["words"] (Ab1 K)) (mFR:mg "first_rule_word" = some (.ref fFR)) (kFR:Θk K fFR) (bFR:Binds K fdFR ["words"] []) (GSN:FnOk P w K mg base CX0 1 fSN fdSN ["names","words"] (Ag K)) (mSN:mg "set_named" = some (.ref fSN)) (kSN:Θk K fSN) (bSN:Binds K fdSN ["names","words"] []):FnOk P w K mg base CX0 2 f fd ["names","line"] (Dl K):=by
 refine F.ok scReadRule (fun vs H Q E h=>?_) (fun cdv A outer s H vs Q E hr h=>?_)
 ·obtain ⟨np,nms,t,rfl,_⟩:=h
  rfl
 ·obtain ⟨np,nms,t,rfl,hn,NN,NNW,lt,q,q0⟩:=h
  have nd:=scReadRule.nd
  have hr1:Room 1 _:=hr.mono (by decide)
  have ls:=V3 t 32
  refine ⟨_,(A8 (C3 (i:=2) nd rfl (Or.inl rfl) (G5 PySem.F.plainAttrs_str PySem.F.slot_str_split PySem.F.type_str_split T9 (pv 1) (A0 B7 A7)))
   (A8 (C3 (i:=3) nd rfl (Or.inl rfl) (C0 GFR hr1 rfl mFR kFR bFR .nil D1 (A0 (pv 2) A7)))
   (A8 (E3 (C5 Ab (pv 3) K5 (D0 _)) (B0 (C2 K5)) C9)
   (A8 (C3 (i:=4) nd rfl (Or.inl rfl) (C0 GSN hr1 rfl mSN kSN bSN .nil D1 (A0 (pv 0) (A0 (I0 N0 (pv 2) M7 (K6 (pv 3))) A7))))
   (A8 (C3 (i:=5) nd rfl (Or.inl rfl) (C0 GSN hr1 rfl mSN kSN bSN .nil D1 (A0 (pv 0) (A0 (I0 N0 (pv 2) (K6 (B8 G8 (pv 3) A9)) M7) A7))))
   (A8 (E3 (PW.pt (Bh (C5 Ab (pv 4) K5 (D0 _)) (Bh (C5 Ab (pv 5) K5 (D0 _)) (Cl (C5 N6 (pv 5) A9 (D0 _)))))) (B0 (C2 K5)) C9)
   (B0 (C2 (G3 (A0 (C7 (C6 (K:=K) rfl) (pv 2) (pv 3) (fun _ _=>rfl)) (A0 (pv 4) (A0 (pv 5) A7)))))))))))),?_⟩
  refine ⟨_,rfl,rfl,t,spaceS,rfl,rfl,rfl,by omega,(by show (Txt.split t ⟨#[32]⟩).length<=1000; omega),fun wl hwl=>?_⟩
  have es:Txt.split t spaceS=Txt.split t ⟨#[32]⟩:=rfl
  rw [es] at q q0 ⊢
  generalize Txt.split t ⟨#[32]⟩=ws at q q0 ls
  have s1:=Same.new (o:=.lst (ws.map V.str)) hwl
  have h1:(upd H wl (.lst (ws.map V.str))) wl=some (.lst (ws.map V.str)):=A6
  generalize upd H wl (.lst (ws.map V.str))=H1 at s1 h1
  refine ⟨_,rfl,wl,ws,rfl,SqL.of h1,by omega,fun k x hk hx hno H2 s2=>?_,fun no H2 s2=>?nowd⟩
  case nowd=>
   refine ⟨_,rfl,rfl,_,rfl,L9 ?_⟩
   refine q0 (fun r hI _ e=>?_) _ (s1.trans s2)
   have:=no (D6 r.1) (by rw [e]; unfold G6; exact List.mem_append_right _ (Θc ..))
   rw [S4] at this
   cases this
  have ep:=Qs hk
  have lk:(ws.take k).length=k:=by
   rw [ZB]
   have:=(Ze_.mp hk).1
   omega
  obtain ⟨b,rfl⟩:=Hk hx
  have lW:(ws.take k).length + ((ws.drop (k + 1)).length + 1)<=291:=by
   have:=congrArg List.length ep
   rw [Zv_,ZA] at this
   omega
  generalize ws.take k=A at ep lk hno lW
  generalize ws.drop (k + 1)=B at ep lW
  clear hk
  subst ep
  have one:∀r,InR nms r->A++D6 b :: B=G6 nms r->A=E6 nms r.2.1/\D6 b=D6 r.1/\B=E6 nms r.2.2:=fun r hI e=>
   Fe hno (fun v hv=>NNW v (N2 NN hI.1 hv)) hx (S4 _) e
  have em:(A++D6 b :: B).map V.str=A.map V.str++V.str (D6 b) :: B.map V.str:=by rw [Zw_]; rfl
  rw [em] at h1
  have h2:=s2 _ _ h1
  have s12:=s1.trans s2
  refine ⟨_,rfl,rfl,_,rfl,K9 ?_⟩
  have lA:(A.map V.str).length=k:=by rw [Θl]; exact lk
  refine ⟨_,rfl,_,rfl,_,rfl,(k:Int),rfl,wl,_,rfl,SqL.of h2,fun p hp=>?_⟩
  have ec:R8 (A.map V.str++V.str (D6 b) :: B.map V.str) none (some (k:Int))=A.map V.str:=by
   have:=Vf (A:=A.map V.str) (B:=V.str (D6 b) :: B.map V.str)
   rw [lA] at this
   exact this
  rw [ec]
  have s3:=Same.new (o:=.lst (A.map V.str)) hp
  have hp3:(upd H2 p (.lst (A.map V.str))) p=some (.lst (A.map V.str)):=A6
  have h3:=s3 _ _ h2
  replace s3:=s12.trans s3
  generalize upd H2 p (.lst (A.map V.str))=H3 at s3 hp3 h3
  have ecB:R8 (A.map V.str++V.str (D6 b) :: B.map V.str) (some ((k + 1:Nat):Int)) none=B.map V.str:=by
   have:=Gv (A:=A.map V.str) (B:=B.map V.str) (w:=V.str (D6 b))
   rw [lA] at this
   exact this
  have h4:∀p2,H3 p2=none->Same H (upd H3 p2 (.lst (B.map V.str)))/\(upd H3 p2 (.lst (B.map V.str))) p2=some (.lst (B.map V.str))/\(upd H3 p2 (.lst (B.map V.str))) wl=some (.lst (A.map V.str++V.str (D6 b) :: B.map V.str)):=fun p2 hp2=>
   ⟨s3.trans (Same.new hp2),A6,(Same.new hp2) _ _ h3⟩
  refine ⟨np,p,nms,A,rfl,s3.seq hn,NN,SqL.of hp3,by omega,fun z hz ez=>?_,fun no=>?_⟩
  ·refine ⟨_,rfl,_,rfl,_,rfl,k,1,rfl,rfl,((k + 1:Nat):Int),rfl,wl,_,rfl,SqL.of h3,fun p2 hp2=>?_⟩
   rw [ecB]
   obtain ⟨s4,hp4,h4'⟩:=h4 p2 hp2
   generalize upd H3 p2 (.lst (B.map V.str))=H4 at s4 hp4 h4'
   refine ⟨np,p2,nms,B,rfl,s4.seq hn,NN,SqL.of hp4,by omega,fun y hy ey=>?_,fun no=>?_⟩
   ·refine ⟨_,rfl,rfl,_,rfl,K9 ?_⟩
    refine ⟨_,rfl,rfl,_,rfl,K9 ?_⟩
    refine ⟨_,rfl,_,_,rfl,rfl,_,rfl,?_⟩
    refine F7 (fun hc=>?_) (fun hc=>?_)
    ·have y0:y=0:=Zj_ hc
     refine q0 (fun r hI ry e=>?_) _ s4
     have:=(one r hI e).2.2
     rw [ey] at this
     exact ry (by rw [<-Jj NN hy hI.2 this]; exact y0)
    ·have y0:y≠0:=fun z=>hc (Zr_ z)
     refine ⟨_,rfl,_,rfl,wl,_,_,_,rfl,rfl,SqL.of h4',B9 (j:=k) (v:=V.str (D6 b)) (by rw [ZD (by omega),lA,Nat.sub_self]; rfl),_,rfl,_,rfl,(by show 3<=sizeLine; decide),fun t ht=>?_⟩
     exact q (b,z,y) t _ ⟨hz,hy⟩ y0 (by unfold G6; rw [ez,ey]) (s4.trans (Same.new ht)) (s4.none ht) A6
   ·refine ⟨_,rfl,rfl,_,rfl,K9 ?_⟩
    refine ⟨_,rfl,rfl,_,rfl,L9 ?_⟩
    exact q0 (fun r hI ry e=>no _ hI.2 (one r hI e).2.2) _ s4
  ·refine ⟨_,rfl,_,rfl,_,rfl,k,1,rfl,rfl,((k + 1:Nat):Int),rfl,wl,_,rfl,SqL.of h3,fun p2 hp2=>?_⟩
   rw [ecB]
   obtain ⟨s4,hp4,h4'⟩:=h4 p2 hp2
   generalize upd H3 p2 (.lst (B.map V.str))=H4 at s4 hp4 h4'
   have fin:∀H',Same H H'->Q .non H':=q0 fun r hI ry e=>no _ hI.1 (one r hI e).1
   refine ⟨np,p2,nms,B,rfl,s4.seq hn,NN,SqL.of hp4,by omega,fun y hy ey=>?_,fun no=>?_⟩
   ·exact ⟨_,rfl,rfl,_,rfl,L9 (fin _ s4)⟩
   ·exact ⟨_,rfl,rfl,_,rfl,L9 (fin _ s4)⟩
end
end Own
namespace Own
open PySem L2
section
variable {P:Program} {w:World} {K:Θf} {mg:Str->Option Value} {base:Heap}
seal PySem.wpAny
noncomputable abbrev Co:Stmt:=top 67
theorem scShowRule:FnScope ["names","rule"] ["names","rule"] (B6 Co):=⟨rfl,rfl,rfl,by decide +kernel,rfl,by decide +kernel,by decide +kernel⟩
theorem Mf {f fNI:Addr} {fd fdNI:FuncData} (F:Fun K "show_rule" "show_rule" Co f fd) (GNI:FnOk P w K mg base CX0 3 fNI fdNI ["names","some"] (Q9 K)) (mNI:mg "names_in" = some (.ref fNI)) (kNI:Θk K fNI) (bNI:Binds K fdNI ["names","some"] []):FnOk P w K mg base CX0 4 f fd ["names","rule"] (R6 K):=by
 refine F.ok scShowRule (fun vs H Q E h=>?_) (fun cdv A outer s H vs Q E hr h=>?_)
 ·obtain ⟨np,nms,r,rfl,_⟩:=h
  rfl
 ·obtain ⟨np,nms,r,rfl,hn,NN,hR,hI,q⟩:=h
  have nd:=scShowRule.nd
  have hr3:Room 3 _:=hr.mono (by decide)
  refine ⟨_,(B0 (C2 (G5 PySem.F.plainAttrs_str PySem.F.slot_str_join PySem.F.type_str_join L1 B7 (A0 (B8 F2 (B8 F2 (C0 GNI hr3 rfl mNI kNI bNI .nil D1 (A0 (pv 0) (A0 (C7 (D5 (K:=K) rfl) (pv 1) A9 (fun _ _=>rfl)) A7))) (D8 (A0 (C7 (D5 (K:=K) rfl) (pv 1) A9 (fun _ _=>rfl)) A7))) (C0 GNI hr3 rfl mNI kNI bNI .nil D1 (A0 (pv 0) (A0 (C7 (D5 (K:=K) rfl) (pv 1) A9 (fun _ _=>rfl)) A7)))) A7)))),?_⟩
  have la:(E6 nms r.x).length<=7:=Q4 NN hI.1
  have lb:(E6 nms r.y).length<=7:=Q4 NN hI.2
  refine ⟨rfl,_,rfl,_,rfl,r.r,_,_,_,rfl,rfl,SqT.of hR,B9 (j:=1) rfl,np,nms,r.x,rfl,hn,NN,hI.1,fun l1 H1 s1 hl0 hl1=>?_⟩
  refine ⟨_,rfl,r.r,_,_,_,rfl,rfl,SqT.of (s1 _ _ hR),B9 (j:=0) rfl,(by show 1<=sizeLine; decide),fun l2 hl2=>?_⟩
  have s2:=Same.new (o:=.lst [V.str (D6 r.st)]) hl2
  have h2:(upd H1 l2 (.lst [V.str (D6 r.st)])) l2=some (.lst [V.str (D6 r.st)]):=A6
  have h1:=s2 _ _ hl1
  replace s2:=s1.trans s2
  generalize upd H1 l2 (.lst [V.str (D6 r.st)])=H2 at s2 h2 h1
  refine ⟨l1,l2,_,_,rfl,rfl,h1,h2,Nat.le_of_lt (D4 (by rw [Θl]; show _ + 1<=1000; omega)),fun l3 hl3=>?_⟩
  have s3:=Same.new (o:=.lst ((E6 nms r.x).map V.str++[V.str (D6 r.st)])) hl3
  have h3:(upd H2 l3 (.lst ((E6 nms r.x).map V.str++[V.str (D6 r.st)]))) l3=some (.lst ((E6 nms r.x).map V.str++[V.str (D6 r.st)])):=A6
  replace s3:=s2.trans s3
  generalize upd H2 l3 (.lst ((E6 nms r.x).map V.str++[V.str (D6 r.st)]))=H3 at s3 h3
  refine ⟨_,rfl,_,rfl,r.r,_,_,_,rfl,rfl,SqT.of (s3 _ _ hR),B9 (j:=2) rfl,np,nms,r.y,rfl,s3.seq hn,NN,hI.2,fun l4 H4 s4 _ hl4=>?_⟩
  refine ⟨l3,l4,_,_,rfl,rfl,s4 _ _ h3,hl4,Nat.le_of_lt (D4 (by rw [Zv_,Θl,Θl]; show _ + 1 + _<=1000; omega)),fun l5 hl5=>?_⟩
  have em:(E6 nms r.x).map V.str++[V.str (D6 r.st)]++(E6 nms r.y).map V.str=(E6 nms r.x++[D6 r.st]++E6 nms r.y).map V.str:=by rw [Zw_,Zw_]; rfl
  have ew:E6 nms r.x++[D6 r.st]++E6 nms r.y=G6 nms r.d:=by unfold G6; rw [List.append_assoc]; rfl
  rw [em,ew]
  refine ⟨spaceS,l5,G6 nms r.d,rfl,rfl,SqL.of A6,P5 (fun x hx=>(U1 NN hI x hx).2) rfl (by have:=Fk NN hI; omega),?_⟩
  rw [L0]
  exact q _ ((s3.trans s4).trans (Same.new hl5))
noncomputable abbrev sIn:Stmt:=top 88
theorem scIn:FnScope ["_law_names_here","_law_some"] ["_law_names_here","_law_some"] (B6 sIn):=⟨rfl,rfl,rfl,by decide +kernel,rfl,by decide +kernel,by decide +kernel⟩
theorem Aet {f:Addr} {fd:FuncData} (F:Fun K "_law_in" "_law_in" sIn f fd) (zrange:mg "range" = none) (zlen:mg "len" = none):FnOk P w K mg base CX0 1 f fd ["_law_names_here","_law_some"] (Q9 K):=by
 refine F.ok scIn (fun vs H Q E h=>?_) (fun cdv A outer s H vs Q E hr h=>?_)
 ·obtain ⟨np,nms,z,rfl,_⟩:=h
  rfl
 ·obtain ⟨np,nms,z,rfl,hn,NN,hz,q⟩:=h
  have nd:=scIn.nd
  have l7:=NN.l7
  have lm:(nms.map V.str).length=nms.length:=Θl ..
  refine ⟨_,(B0 (C2 (G9 (xs:=["_law_k"]) (cs ["_law_names_here","_law_some"] (B6 sIn) rfl rfl (by decide +kernel)) rfl (M6 rfl zrange (A0 (D7 (E4 (K:=K) rfl) (by rfl) zlen PySem.boot_len (A0 (pv 0) A7)) A7)) (fun _ _ _=>D3 (i:=0) (show (["_law_k","_law_names_here","_law_some"]:List Str).Nodup by decide +kernel) rfl (Or.inl rfl)) (fun _ _ _=>(Y4 (C5 N6 (B8 S3 (B8 Aa1 (pv 2) (pv 0)) A9) A9 (D0 _)))) (fun _ _ _=>(C7 (C6 (K:=K) rfl) (pv 1) (pv 0) (fun _ _=>rfl)))))),?_⟩
  refine ⟨_,rfl,np,_,rfl,.inl hn,((nms.map V.str).length:Int),rfl,by omega,by omega,?_⟩
  rw [lm]
  refine T6 (k:=nms.length) (fun i acc H'=>H' = H/\acc=(((List.range i).filter (Jg z)).map fun c=>nms.getD c noS).map V.str) (by omega) ⟨rfl,rfl⟩ (fun i acc H' hi h=>?_) (fun i acc H' hi h=>?_) (fun acc H' h=>?_)
  ·obtain ⟨rfl,rfl⟩:=h
   rw [Θl,Θl]
   exact Zo_ (List.length_filter_le _ _) (by rw [List.length_range]; exact Zd_ _)
  ·obtain ⟨rfl,rfl⟩:=h
   have hb:decide (z / 2 ^ i&&&1=1)=Jg z i:=by
    unfold Jg
    rw [Nat.and_one_is_mod]
   refine ⟨rfl,_,rfl,_,rfl,z,i,rfl,rfl,z / 2 ^ i,1,rfl,rfl,z / 2 ^ i&&&1,1,rfl,rfl,_,rfl,?_⟩
   rw [hb,List.range_succ,List.filter_append]
   refine F7 (fun hc=>?_) (fun hc=>?_)
   ·refine ⟨_,rfl,_,rfl,np,_,_,_,rfl,rfl,hn,B9 (j:=i) (v:=V.str (nms.getD i noS)) (by rw [Θg,(G1 hi).2]; rfl),rfl,?_⟩
    rw [List.filter_cons_of_pos hc,List.filter_nil,Zw_,Zw_]
    rfl
   ·refine ⟨rfl,?_⟩
    rw [List.filter_cons_of_neg hc,List.filter_nil,List.append_nil]
  obtain ⟨rfl,rfl⟩:=h
  rw [Vu nms.length (by omega) z hz]
  intro l hl
  exact q l _ (Same.new hl) hl A6
noncomputable abbrev Oy:Stmt:=top 89
theorem scLLine:FnScope ["_law_names_here","_law_rule_here"] ["_law_names_here","_law_rule_here"] (B6 Oy):=⟨rfl,rfl,rfl,by decide +kernel,rfl,by decide +kernel,by decide +kernel⟩
theorem Xa {f fIN:Addr} {fd fdIN:FuncData} (F:Fun K "_law_line" "_law_line" Oy f fd) (GIN:FnOk P w K mg base CX0 1 fIN fdIN ["_law_names_here","_law_some"] (Q9 K)) (mIN:mg "_law_in" = some (.ref fIN)) (kIN:Θk K fIN) (bIN:Binds K fdIN ["_law_names_here","_law_some"] []):FnOk P w K mg base CX0 2 f fd ["_law_names_here","_law_rule_here"] (R6 K):=by
 refine F.ok scLLine (fun vs H Q E h=>?_) (fun cdv A outer s H vs Q E hr h=>?_)
 ·obtain ⟨np,nms,r,rfl,_⟩:=h
  rfl
 ·obtain ⟨np,nms,r,rfl,hn,NN,hR,hI,q⟩:=h
  have nd:=scLLine.nd
  have hr1:Room 1 _:=hr.mono (by decide)
  refine ⟨_,(B0 (C2 (G5 PySem.F.plainAttrs_str PySem.F.slot_str_join PySem.F.type_str_join L1 B7 (A0 (B8 F2 (B8 F2 (C0 GIN hr1 rfl mIN kIN bIN .nil D1 (A0 (pv 0) (A0 (C7 (D5 (K:=K) rfl) (pv 1) A9 (fun _ _=>rfl)) A7))) (D8 (A0 (C7 (D5 (K:=K) rfl) (pv 1) A9 (fun _ _=>rfl)) A7))) (C0 GIN hr1 rfl mIN kIN bIN .nil D1 (A0 (pv 0) (A0 (C7 (D5 (K:=K) rfl) (pv 1) A9 (fun _ _=>rfl)) A7)))) A7)))),?_⟩
  have la:(E6 nms r.x).length<=7:=Q4 NN hI.1
  have lb:(E6 nms r.y).length<=7:=Q4 NN hI.2
  refine ⟨rfl,_,rfl,_,rfl,r.r,_,_,_,rfl,rfl,SqT.of hR,B9 (j:=1) rfl,np,nms,r.x,rfl,hn,NN,hI.1,fun l1 H1 s1 hl0 hl1=>?_⟩
  refine ⟨_,rfl,r.r,_,_,_,rfl,rfl,SqT.of (s1 _ _ hR),B9 (j:=0) rfl,(by show 1<=sizeLine; decide),fun l2 hl2=>?_⟩
  have s2:=Same.new (o:=.lst [V.str (D6 r.st)]) hl2
  have h2:(upd H1 l2 (.lst [V.str (D6 r.st)])) l2=some (.lst [V.str (D6 r.st)]):=A6
  have h1:=s2 _ _ hl1
  replace s2:=s1.trans s2
  generalize upd H1 l2 (.lst [V.str (D6 r.st)])=H2 at s2 h2 h1
  refine ⟨l1,l2,_,_,rfl,rfl,h1,h2,Nat.le_of_lt (D4 (by rw [Θl]; show _ + 1<=1000; omega)),fun l3 hl3=>?_⟩
  have s3:=Same.new (o:=.lst ((E6 nms r.x).map V.str++[V.str (D6 r.st)])) hl3
  have h3:(upd H2 l3 (.lst ((E6 nms r.x).map V.str++[V.str (D6 r.st)]))) l3=some (.lst ((E6 nms r.x).map V.str++[V.str (D6 r.st)])):=A6
  replace s3:=s2.trans s3
  generalize upd H2 l3 (.lst ((E6 nms r.x).map V.str++[V.str (D6 r.st)]))=H3 at s3 h3
  refine ⟨_,rfl,_,rfl,r.r,_,_,_,rfl,rfl,SqT.of (s3 _ _ hR),B9 (j:=2) rfl,np,nms,r.y,rfl,s3.seq hn,NN,hI.2,fun l4 H4 s4 _ hl4=>?_⟩
  refine ⟨l3,l4,_,_,rfl,rfl,s4 _ _ h3,hl4,Nat.le_of_lt (D4 (by rw [Zv_,Θl,Θl]; show _ + 1 + _<=1000; omega)),fun l5 hl5=>?_⟩
  have em:(E6 nms r.x).map V.str++[V.str (D6 r.st)]++(E6 nms r.y).map V.str=(E6 nms r.x++[D6 r.st]++E6 nms r.y).map V.str:=by rw [Zw_,Zw_]; rfl
  have ew:E6 nms r.x++[D6 r.st]++E6 nms r.y=G6 nms r.d:=by unfold G6; rw [List.append_assoc]; rfl
  rw [em,ew]
  refine ⟨spaceS,l5,G6 nms r.d,rfl,rfl,SqL.of A6,P5 (fun x hx=>(U1 NN hI x hx).2) rfl (by have:=Fk NN hI; omega),?_⟩
  rw [L0]
  exact q _ ((s3.trans s4).trans (Same.new hl5))
end
end Own
namespace Own
open PySem L2
section
variable {P:Program} {w:World} {K:Θf} {mg:Str->Option Value} {base:Heap}
seal PySem.wpAny
noncomputable abbrev Kk:Stmt:=top 68
theorem scShown:FnScope ["names","rules"] ["names","rules"] (B6 Kk):=⟨rfl,rfl,rfl,by decide +kernel,rfl,by decide +kernel,by decide +kernel⟩
theorem Xj {f fSR:Addr} {fd fdSR:FuncData} (F:Fun K "shown" "shown" Kk f fd) (GSR:FnOk P w K mg base CX0 4 fSR fdSR ["names","rule"] (R6 K)) (mSR:mg "show_rule" = some (.ref fSR)) (kSR:Θk K fSR) (bSR:Binds K fdSR ["names","rule"] []):FnOk P w K mg base CX0 5 f fd ["names","rules"] (Ee K):=by
 refine F.ok scShown (fun vs H Q E h=>?_) (fun cdv A outer s H vs Q E hr h=>?_)
 ·obtain ⟨np,rl,nms,rs,rfl,_⟩:=h
  rfl
 ·obtain ⟨np,rl,nms,rs,rfl,hn,NN,hrl,hR,l12,q⟩:=h
  have nd:=scShown.nd
  have hr4:Room 4 _:=hr.mono (by decide)
  refine ⟨_,(B0 (C2 (G5 PySem.F.plainAttrs_str PySem.F.slot_str_join PySem.F.type_str_join L1 B7 (A0 (B8 F2 (D8 (A0 (G5 PySem.F.plainAttrs_str PySem.F.slot_str_join PySem.F.type_str_join L1 B7 (A0 (B8 F2 (D8 (A0 B7 A7)) (pv 0)) A7)) A7)) (G9 (xs:=["rule"]) (cs ["names","rules"] (B6 Kk) rfl rfl (by decide +kernel)) rfl (F1 (K:=K) rfl (pv 1)) (fun _ _ _=>D3 (i:=0) (show (["rule","names","rules"]:List Str).Nodup by decide +kernel) rfl (Or.inl rfl)) (fun _ _ _=>K7) (fun _ _ _=>(C0 GSR hr4 rfl mSR kSR bSR .nil D1 (A0 (pv 1) (A0 (pv 0) A7)))))) A7)))),?_⟩
  have l7:=NN.l7
  refine ⟨rfl,rfl,(by show 1<=sizeLine; decide),fun l1 hl1=>?_⟩
  have s1:=Same.new (o:=.lst [V.str columnsS]) hl1
  have h1:(upd H l1 (.lst [V.str columnsS])) l1=some (.lst [V.str columnsS]):=A6
  have hn1:=s1 _ _ hn
  refine ⟨_,rfl,l1,np,_,_,rfl,rfl,h1,hn1,Nat.le_of_lt (D4 (by rw [Θl]; show 1 + _<=1000; omega)),fun l2 hl2=>?_⟩
  have s2:=s1.trans (Same.new (o:=.lst ((columnsS :: nms).map V.str)) hl2)
  have h2:(upd (upd H l1 (.lst [V.str columnsS])) l2 (.lst ((columnsS :: nms).map V.str))) l2=some (.lst ((columnsS :: nms).map V.str)):=A6
  refine ⟨spaceS,l2,columnsS :: nms,rfl,rfl,SqL.of h2,P5 (fun x hx=>(T4 NN x hx).2) rfl (by rw [ZA]; omega),?_⟩
  rw [L0]
  have hgen:∀H2:Hp,H2=upd (upd H l1 (.lst [V.str columnsS])) l2 (.lst ((columnsS :: nms).map V.str))->Same H H2:=fun H2 e=>by rw [e]; exact s2
  generalize hHH:upd (upd H l1 _) l2 _=H2
  replace s2:=hgen H2 hHH.symm
  clear hgen hHH h2 h1 hn1 s1 hl1 hl2
  refine ⟨(by show 1<=sizeLine; decide),fun l3 hl3=>?_⟩
  have s3:=s2.trans (Same.new (o:=.lst [V.str (K1 nms)]) hl3)
  have h3:(upd H2 l3 (.lst [V.str (K1 nms)])) l3=some (.lst [V.str (K1 nms)]):=A6
  have hgen:∀H3:Hp,H3=upd H2 l3 (.lst [V.str (K1 nms)])->Same H H3/\H3 l3=some (.lst [V.str (K1 nms)]):=fun H3 e=>by rw [e]; exact ⟨s3,h3⟩
  generalize hHH:upd H2 l3 _=H3
  obtain ⟨s3,h3⟩:=hgen H3 hHH.symm
  clear hgen hHH s2 hl3
  have lr:(rs.map fun (r:Rl)=>V.ref r.r).length=rs.length:=Θl ..
  refine ⟨_,rfl,rl,rfl,⟨_,s3.seq hrl⟩,N3 (K:=K) (xs:=rs.map fun (r:Rl)=>V.ref r.r) (fun j acc H'=>Same H H'/\H' l3=some (.lst [V.str (K1 nms)])/\acc=(((rs.map Rl.d).take j).map (E7 nms)).map V.str) (by omega) ⟨s3,h3,rfl⟩ (fun j acc H' hj h=>?_) (fun j v acc H' hv h=>?_) (fun acc H' h=>?_)⟩
  ·obtain ⟨s4,h4,rfl⟩:=h
   exact ⟨s4.seq hrl,by rw [Θl,Θl]; exact List.length_take_le _ _⟩
  ·obtain ⟨s4,h4,rfl⟩:=h
   rw [Θg] at hv
   cases ec:rs[j]? with
   | none=>rw [ec] at hv; cases hv
   | some r=>
    rw [ec] at hv
    obtain rfl:=(Θo hv).symm
    have hr':=hR r (Θe ec)
    refine ⟨rfl,_,rfl,_,rfl,np,nms,r,rfl,SqL.of (s4 _ _ hn),NN,s4 _ _ hr'.1,hr'.2,fun H5 s5=>⟨s4.trans s5,s5 _ _ h4,?_⟩⟩
    rw [List.take_succ,Θg,ec,Zw_,Zw_]
    rfl
  obtain ⟨s4,h4,rfl⟩:=h
  have et:(rs.map Rl.d).take (rs.map fun (r:Rl)=>V.ref r.r).length=rs.map Rl.d:=List.take_of_length_le (by rw [lr,Θl]; exact Zd_ _)
  rw [et]
  intro l4 hl4
  have s5:=Same.new (o:=.lst (((rs.map Rl.d).map (E7 nms)).map V.str)) hl4
  have h5:(upd H' l4 (.lst (((rs.map Rl.d).map (E7 nms)).map V.str))) l4=some (.lst (((rs.map Rl.d).map (E7 nms)).map V.str)):=A6
  have h45:=s5 _ _ h4
  replace s5:=s4.trans s5
  generalize upd H' l4 (.lst (((rs.map Rl.d).map (E7 nms)).map V.str))=H5 at s5 h5 h45
  refine ⟨l3,l4,_,_,rfl,rfl,h45,h5,Nat.le_of_lt (D4 (by rw [Θl,Θl,Θl]; show 1 + _<=1000; omega)),fun l5 hl5=>?_⟩
  have hin:=Fl hR
  refine ⟨nlS,l5,F4 nms (rs.map Rl.d),rfl,rfl,SqL.of A6,P5 (fun x hx=>(O1 NN hin x hx).2) rfl (by rw [M0,Θl]; omega),?_⟩
  rw [L0]
  exact q _ (s5.trans (Same.new hl5))
noncomputable abbrev Ke:Stmt:=top 90
theorem scLText:FnScope ["_law_names_here","_law_rules_here"] ["_law_names_here","_law_rules_here"] (B6 Ke):=⟨rfl,rfl,rfl,by decide +kernel,rfl,by decide +kernel,by decide +kernel⟩
theorem Xb {f fLL:Addr} {fd fdLL:FuncData} (F:Fun K "_law_text" "_law_text" Ke f fd) (GLL:FnOk P w K mg base CX0 2 fLL fdLL ["_law_names_here","_law_rule_here"] (R6 K)) (mLL:mg "_law_line" = some (.ref fLL)) (kLL:Θk K fLL) (bLL:Binds K fdLL ["_law_names_here","_law_rule_here"] []):FnOk P w K mg base CX0 3 f fd ["_law_names_here","_law_rules_here"] (Ee K):=by
 refine F.ok scLText (fun vs H Q E h=>?_) (fun cdv A outer s H vs Q E hr h=>?_)
 ·obtain ⟨np,rl,nms,rs,rfl,_⟩:=h
  rfl
 ·obtain ⟨np,rl,nms,rs,rfl,hn,NN,hrl,hR,l12,q⟩:=h
  have nd:=scLText.nd
  have hr2:Room 2 _:=hr.mono (by decide)
  refine ⟨_,(B0 (C2 (G5 PySem.F.plainAttrs_str PySem.F.slot_str_join PySem.F.type_str_join L1 B7 (A0 (B8 F2 (D8 (A0 (G5 PySem.F.plainAttrs_str PySem.F.slot_str_join PySem.F.type_str_join L1 B7 (A0 (B8 F2 (D8 (A0 B7 A7)) (pv 0)) A7)) A7)) (G9 (xs:=["_law_rule_here"]) (cs ["_law_names_here","_law_rules_here"] (B6 Ke) rfl rfl (by decide +kernel)) rfl (F1 (K:=K) rfl (pv 1)) (fun _ _ _=>D3 (i:=0) (show (["_law_rule_here","_law_names_here","_law_rules_here"]:List Str).Nodup by decide +kernel) rfl (Or.inl rfl)) (fun _ _ _=>K7) (fun _ _ _=>(C0 GLL hr2 rfl mLL kLL bLL .nil D1 (A0 (pv 1) (A0 (pv 0) A7)))))) A7)))),?_⟩
  have l7:=NN.l7
  refine ⟨rfl,rfl,(by show 1<=sizeLine; decide),fun l1 hl1=>?_⟩
  have s1:=Same.new (o:=.lst [V.str columnsS]) hl1
  have h1:(upd H l1 (.lst [V.str columnsS])) l1=some (.lst [V.str columnsS]):=A6
  have hn1:=s1 _ _ hn
  refine ⟨_,rfl,l1,np,_,_,rfl,rfl,h1,hn1,Nat.le_of_lt (D4 (by rw [Θl]; show 1 + _<=1000; omega)),fun l2 hl2=>?_⟩
  have s2:=s1.trans (Same.new (o:=.lst ((columnsS :: nms).map V.str)) hl2)
  have h2:(upd (upd H l1 (.lst [V.str columnsS])) l2 (.lst ((columnsS :: nms).map V.str))) l2=some (.lst ((columnsS :: nms).map V.str)):=A6
  refine ⟨spaceS,l2,columnsS :: nms,rfl,rfl,SqL.of h2,P5 (fun x hx=>(T4 NN x hx).2) rfl (by rw [ZA]; omega),?_⟩
  rw [L0]
  have hgen:∀H2:Hp,H2=upd (upd H l1 (.lst [V.str columnsS])) l2 (.lst ((columnsS :: nms).map V.str))->Same H H2:=fun H2 e=>by rw [e]; exact s2
  generalize hHH:upd (upd H l1 _) l2 _=H2
  replace s2:=hgen H2 hHH.symm
  clear hgen hHH h2 h1 hn1 s1 hl1 hl2
  refine ⟨(by show 1<=sizeLine; decide),fun l3 hl3=>?_⟩
  have s3:=s2.trans (Same.new (o:=.lst [V.str (K1 nms)]) hl3)
  have h3:(upd H2 l3 (.lst [V.str (K1 nms)])) l3=some (.lst [V.str (K1 nms)]):=A6
  have hgen:∀H3:Hp,H3=upd H2 l3 (.lst [V.str (K1 nms)])->Same H H3/\H3 l3=some (.lst [V.str (K1 nms)]):=fun H3 e=>by rw [e]; exact ⟨s3,h3⟩
  generalize hHH:upd H2 l3 _=H3
  obtain ⟨s3,h3⟩:=hgen H3 hHH.symm
  clear hgen hHH s2 hl3
  have lr:(rs.map fun (r:Rl)=>V.ref r.r).length=rs.length:=Θl ..
  refine ⟨_,rfl,rl,rfl,⟨_,s3.seq hrl⟩,N3 (K:=K) (xs:=rs.map fun (r:Rl)=>V.ref r.r) (fun j acc H'=>Same H H'/\H' l3=some (.lst [V.str (K1 nms)])/\acc=(((rs.map Rl.d).take j).map (E7 nms)).map V.str) (by omega) ⟨s3,h3,rfl⟩ (fun j acc H' hj h=>?_) (fun j v acc H' hv h=>?_) (fun acc H' h=>?_)⟩
  ·obtain ⟨s4,h4,rfl⟩:=h
   exact ⟨s4.seq hrl,by rw [Θl,Θl]; exact List.length_take_le _ _⟩
  ·obtain ⟨s4,h4,rfl⟩:=h
   rw [Θg] at hv
   cases ec:rs[j]? with
   | none=>rw [ec] at hv; cases hv
   | some r=>
    rw [ec] at hv
    obtain rfl:=(Θo hv).symm
    have hr':=hR r (Θe ec)
    refine ⟨rfl,_,rfl,_,rfl,np,nms,r,rfl,SqL.of (s4 _ _ hn),NN,s4 _ _ hr'.1,hr'.2,fun H5 s5=>⟨s4.trans s5,s5 _ _ h4,?_⟩⟩
    rw [List.take_succ,Θg,ec,Zw_,Zw_]
    rfl
  obtain ⟨s4,h4,rfl⟩:=h
  have et:(rs.map Rl.d).take (rs.map fun (r:Rl)=>V.ref r.r).length=rs.map Rl.d:=List.take_of_length_le (by rw [lr,Θl]; exact Zd_ _)
  rw [et]
  intro l4 hl4
  have s5:=Same.new (o:=.lst (((rs.map Rl.d).map (E7 nms)).map V.str)) hl4
  have h5:(upd H' l4 (.lst (((rs.map Rl.d).map (E7 nms)).map V.str))) l4=some (.lst (((rs.map Rl.d).map (E7 nms)).map V.str)):=A6
  have h45:=s5 _ _ h4
  replace s5:=s4.trans s5
  generalize upd H' l4 (.lst (((rs.map Rl.d).map (E7 nms)).map V.str))=H5 at s5 h5 h45
  refine ⟨l3,l4,_,_,rfl,rfl,h45,h5,Nat.le_of_lt (D4 (by rw [Θl,Θl,Θl]; show 1 + _<=1000; omega)),fun l5 hl5=>?_⟩
  have hin:=Fl hR
  refine ⟨nlS,l5,F4 nms (rs.map Rl.d),rfl,rfl,SqL.of A6,P5 (fun x hx=>(O1 NN hin x hx).2) rfl (by rw [M0,Θl]; omega),?_⟩
  rw [L0]
  exact q _ (s5.trans (Same.new hl5))
end
end Own
namespace Own
open PySem L2
section
variable {P:Program} {w:World} {K:Θf} {mg:Str->Option Value} {base:Heap}
seal PySem.wpAny
noncomputable abbrev Fq:Stmt:=top 69
theorem scShowSet:FnScope ["names","some"] ["names","some"] (B6 Fq):=⟨rfl,rfl,rfl,by decide +kernel,rfl,by decide +kernel,by decide +kernel⟩
theorem Ol {f fNI:Addr} {fd fdNI:FuncData} (F:Fun K "show_set" "show_set" Fq f fd) (GNI:FnOk P w K mg base CX0 3 fNI fdNI ["names","some"] (Q9 K)) (mNI:mg "names_in" = some (.ref fNI)) (kNI:Θk K fNI) (bNI:Binds K fdNI ["names","some"] []):FnOk P w K mg base CX0 4 f fd ["names","some"] (Y8 K):=by
 refine F.ok scShowSet (fun vs H Q E h=>?_) (fun cdv A outer s H vs Q E hr h=>?_)
 ·obtain ⟨np,nms,z,rfl,_⟩:=h
  rfl
 ·obtain ⟨np,nms,z,rfl,hn,NN,hz,q⟩:=h
  have nd:=scShowSet.nd
  have hr3:Room 3 _:=hr.mono (by decide)
  refine ⟨_,(A8 (E3 (C5 N6 (pv 1) A9 (D0 _)) (B0 (C2 B7)) C9)
   (B0 (C2 (G5 PySem.F.plainAttrs_str PySem.F.slot_str_join PySem.F.type_str_join L1 B7 (A0 (C0 GNI hr3 rfl mNI kNI bNI .nil D1 (A0 (pv 0) (A0 (pv 1) A7))) A7))))),?_⟩
  refine ⟨_,rfl,z,0,rfl,rfl,_,rfl,F7 (fun hc=>?_) (fun hc=>?_)⟩
  ·obtain rfl:z=0:=Zj_ hc
   exact q _ (Same.refl _)
  ·have z0:z≠0:=fun e=>hc (Zr_ e)
   refine ⟨rfl,_,rfl,_,rfl,np,nms,z,rfl,hn,NN,hz,fun l H1 s1 hl0 hl=>?_⟩
   refine ⟨_,l,E6 nms z,rfl,rfl,SqL.of hl,Wk NN hz,?_⟩
   have e:E2 nms z=Txt.join commaS (E6 nms z):=by unfold E2; rw [if_neg z0,L0]
   have q1:=q H1 s1
   rw [e] at q1
   exact q1
noncomputable abbrev Fn:Stmt:=top 70
theorem scReadSet:FnScope ["names","text","some"] ["names","text"] (B6 Fn):=⟨rfl,rfl,rfl,by decide +kernel,rfl,by decide +kernel,by decide +kernel⟩
theorem Og {f fSN CST:Addr} {fd fdSN:FuncData} (F:Fun K "read_set" "read_set" Fn f fd) (GSN:FnOk P w K mg base CX0 1 fSN fdSN ["names","words"] (Ag K)) (mSN:mg "set_named" = some (.ref fSN)) (kSN:Θk K fSN) (bSN:Binds K fdSN ["names","words"] []) (OST:Exc K "NoSet" CST) (zisinstance:mg "isinstance" = none) (zstr:mg "str" = none):FnOk P w K mg base (CX1 P w) 2 f fd ["names","text"] (Ih K CST):=by
 refine F.ok1 scReadSet (fun vs H Q E h=>?_) (fun cdv A outer s H vs Q E hr h=>?_)
 ·obtain ⟨np,nms,t,rfl,_⟩:=h
  rfl
 ·obtain ⟨np,nms,t,rfl,hn,NN,lt,ct,q0,q1,qe⟩:=h
  have nd:=scReadSet.nd
  have hr1:Room 1 _:=hr.mono (by decide)
  refine ⟨_,(A8 (E3 (W6 (O2 (D7 (Ek (K:=K) rfl) (by rfl) zisinstance PyProof.Rows.boot_isinstance (A0 (pv 1) (A0 (Dx (v:=.ty "str") rfl zstr PyProof.Rows.boot_str rfl) A7))))) (B0 (P6 (EX:=E) OST (by rfl) rfl (A0 B7 A7) (fun _ _ _ _ _ _ _ I hx hE=>N8 I hx hE))) C9)
   (A8 (E3 (C5 op_eq (pv 1) B7 (D0 _)) (B0 (C2 A9)) C9)
   (A8 (C3 (i:=2) nd rfl (Or.inl rfl) (C0 GSN hr1 rfl mSN kSN bSN .nil D1 (A0 (pv 0) (A0 (G5 PySem.F.plainAttrs_str PySem.F.slot_str_split PySem.F.type_str_split Wj (pv 1) (A0 B7 A7)) A7))))
   (A8 (E3 (C5 Ab (pv 2) K5 (D0 _)) (B0 (P6 (EX:=E) OST (by rfl) rfl (A0 (Adg (pv 1)) A7) (fun _ _ _ _ _ _ _ I hx hE=>N8 I hx hE))) C9)
   (B0 (C2 (pv 2))))))),?_⟩
  refine ⟨_,rfl,_,_,_,true,rfl,.str _,rfl,_,rfl,K9 ?_⟩
  refine ⟨_,rfl,rfl,_,rfl,F7 (fun hc=>?_) (fun hc=>?_)⟩
  ·have e:t=dashS:=by
    have:=Zj_ hc
    injection this
   exact q0 e
  ·have td:t≠dashS:=fun e=>hc (Zr_ (by rw [e]; rfl))
   have sl:=Uh t
   refine ⟨_,rfl,_,rfl,rfl,t,commaS,rfl,rfl,rfl,by omega,by omega,fun D hD=>?_⟩
   have s1:=Same.new (o:=.lst ((Txt.split t commaS).map V.str)) hD
   refine ⟨np,D,nms,Txt.split t commaS,rfl,s1.seq hn,NN,SqL.of A6,by omega,fun s hs e=>?_,fun no=>?_⟩
   ·exact ⟨_,rfl,rfl,_,rfl,K9 ⟨_,rfl,q1 s _ s1 td hs e⟩⟩
   ·refine ⟨_,rfl,rfl,_,rfl,L9 ?_⟩
    have rl:=StrLaws.reprText_len t fun c hc'=>Zq_ (ct c hc') (by decide)
    refine ⟨_,rfl,t,rfl,by omega,fun y=>?_⟩
    exact ⟨(by show 1<=sizeLine; decide),qe ⟨td,no⟩ _ s1⟩
noncomputable abbrev Adw:Stmt:=top 91
theorem scSet:FnScope ["_law_names_here","_law_some"] ["_law_names_here","_law_some"] (B6 Adw):=⟨rfl,rfl,rfl,by decide +kernel,rfl,by decide +kernel,by decide +kernel⟩
theorem Ac3 {f fIN:Addr} {fd fdIN:FuncData} (F:Fun K "_law_set" "_law_set" Adw f fd) (GIN:FnOk P w K mg base CX0 1 fIN fdIN ["_law_names_here","_law_some"] (Q9 K)) (mIN:mg "_law_in" = some (.ref fIN)) (kIN:Θk K fIN) (bIN:Binds K fdIN ["_law_names_here","_law_some"] []):FnOk P w K mg base CX0 2 f fd ["_law_names_here","_law_some"] (Y8 K):=by
 refine F.ok scSet (fun vs H Q E h=>?_) (fun cdv A outer s H vs Q E hr h=>?_)
 ·obtain ⟨np,nms,z,rfl,_⟩:=h
  rfl
 ·obtain ⟨np,nms,z,rfl,hn,NN,hz,q⟩:=h
  have nd:=scSet.nd
  have hr1:Room 1 _:=hr.mono (by decide)
  refine ⟨_,(A8 (E3 (C5 N6 (pv 1) A9 (D0 _)) (B0 (C2 B7)) C9)
   (B0 (C2 (G5 PySem.F.plainAttrs_str PySem.F.slot_str_join PySem.F.type_str_join L1 B7 (A0 (C0 GIN hr1 rfl mIN kIN bIN .nil D1 (A0 (pv 0) (A0 (pv 1) A7))) A7))))),?_⟩
  refine ⟨_,rfl,z,0,rfl,rfl,_,rfl,F7 (fun hc=>?_) (fun hc=>?_)⟩
  ·obtain rfl:z=0:=Zj_ hc
   exact q _ (Same.refl _)
  ·have z0:z≠0:=fun e=>hc (Zr_ e)
   refine ⟨rfl,_,rfl,_,rfl,np,nms,z,rfl,hn,NN,hz,fun l H1 s1 hl0 hl=>?_⟩
   refine ⟨_,l,E6 nms z,rfl,rfl,SqL.of hl,Wk NN hz,?_⟩
   have e:E2 nms z=Txt.join commaS (E6 nms z):=by unfold E2; rw [if_neg z0,L0]
   have q1:=q H1 s1
   rw [e] at q1
   exact q1
end
end Own
namespace Own
open PySem L2
section
variable {P:Program} {w:World} {K:Θf} {mg:Str->Option Value} {base:Heap}
seal PySem.wpAny
noncomputable abbrev Y7:Stmt:=top 76
theorem scShowSets:FnScope ["names","sets"] ["names","sets"] (B6 Y7):=⟨rfl,rfl,rfl,by decide +kernel,rfl,by decide +kernel,by decide +kernel⟩
theorem Mg {f fSS:Addr} {fd fdSS:FuncData} (F:Fun K "show_sets" "show_sets" Y7 f fd) (GSS:FnOk P w K mg base CX0 4 fSS fdSS ["names","some"] (Y8 K)) (mSS:mg "show_set" = some (.ref fSS)) (kSS:Θk K fSS) (bSS:Binds K fdSS ["names","some"] []):FnOk P w K mg base CX0 5 f fd ["names","sets"] (Mv K):=by
 refine F.ok scShowSets (fun vs H Q E h=>?_) (fun cdv A outer s H vs Q E hr h=>?_)
 ·obtain ⟨np,sl,nms,ss,rfl,_⟩:=h
  rfl
 ·obtain ⟨np,sl,nms,ss,rfl,hn,NN,hs,l2,hb,q⟩:=h
  have nd:=scShowSets.nd
  have hr4:Room 4 _:=hr.mono (by decide)
  refine ⟨_,(B0 (C2 (G5 PySem.F.plainAttrs_str PySem.F.slot_str_join PySem.F.type_str_join L1 B7 (A0 (G9 (xs:=["some"]) (cs ["names","sets"] (B6 Y7) rfl rfl (by decide +kernel)) rfl (F1 (K:=K) rfl (pv 1)) (fun _ _ _=>D3 (i:=0) (show (["some","names","sets"]:List Str).Nodup by decide +kernel) rfl (Or.inl rfl)) (fun _ _ _=>K7) (fun _ _ _=>(C0 GSS hr4 rfl mSS kSS bSS .nil D1 (A0 (pv 1) (A0 (pv 0) A7))))) A7)))),?_⟩
  have lr:(ss.map vN).length=ss.length:=Θl ..
  refine ⟨rfl,_,rfl,sl,rfl,⟨_,hs⟩,N3 (K:=K) (xs:=ss.map vN) (fun j acc H'=>Same H H'/\acc=((ss.take j).map (E2 nms)).map V.str) (by omega) ⟨Same.refl _,rfl⟩ (fun j acc H' hj h=>?_) (fun j v acc H' hv h=>?_) (fun acc H' h=>?_)⟩
  ·obtain ⟨s4,rfl⟩:=h
   exact ⟨s4.seq hs,by rw [Θl,Θl]; exact List.length_take_le _ _⟩
  ·obtain ⟨s4,rfl⟩:=h
   rw [Θg] at hv
   cases ec:ss[j]? with
   | none=>rw [ec] at hv; cases hv
   | some z=>
    rw [ec] at hv
    obtain rfl:=(Θo hv).symm
    refine ⟨rfl,_,rfl,_,rfl,np,nms,z,rfl,s4.seq hn,NN,hb z (Θe ec),fun H5 s5=>⟨s4.trans s5,?_⟩⟩
    rw [List.take_succ,ec,Zw_,Zw_]
    rfl
  obtain ⟨s4,rfl⟩:=h
  rw [lr,List.take_length]
  intro l4 hl4
  refine ⟨spaceS,l4,ss.map (E2 nms),rfl,rfl,SqL.of A6,P5 (d:=70) (fun x hx=>?_) rfl (by rw [Θl]; omega),?_⟩
  ·obtain ⟨z,hz,rfl⟩:=Θn hx
   exact L8 NN (hb z hz)
  rw [L0]
  exact q _ (s4.trans (Same.new hl4))
noncomputable abbrev Bn:Stmt:=top 77
theorem scShowCov:FnScope ["names","rules","lines"] ["names","rules"] (B6 Bn):=⟨rfl,rfl,rfl,by decide +kernel,rfl,by decide +kernel,by decide +kernel⟩
theorem Oj {f fCV fSR:Addr} {fd fdCV fdSR:FuncData} (F:Fun K "show_cover" "show_cover" Bn f fd) (GCV:FnOk P w K mg base CX0 7 fCV fdCV ["many","rules"] (Mp K)) (mCV:mg "cover" = some (.ref fCV)) (kCV:Θk K fCV) (bCV:Binds K fdCV ["many","rules"] []) (GSR:FnOk P w K mg base CX0 4 fSR fdSR ["names","rule"] (R6 K)) (mSR:mg "show_rule" = some (.ref fSR)) (kSR:Θk K fSR) (bSR:Binds K fdSR ["names","rule"] []) (zlen:mg "len" = none):FnOk P w K mg base CX0 8 f fd ["names","rules"] (Ij K):=by
 refine F.ok scShowCov (fun vs H Q E h=>?_) (fun cdv A outer s H vs Q E hr h=>?_)
 ·obtain ⟨np,rl,nms,rs,rfl,_⟩:=h
  rfl
 ·obtain ⟨np,rl,nms,rs,rfl,hn,NN,hrl,hR,l12,q⟩:=h
  have nd:=scShowCov.nd
  have hr4:Room 4 _:=hr.mono (by decide)
  have hr7:Room 7 _:=hr.mono (by decide)
  refine ⟨_,(A8 (Jx (i:=2) (xs:=["rule"]) (cs ["names","rules","lines"] (B6 Bn) rfl rfl (by decide +kernel)) rfl nd rfl rfl (F1 (K:=K) rfl (C0 GCV hr7 rfl mCV kCV bCV .nil D1 (A0 (D7 (E4 (K:=K) rfl) (by rfl) zlen PySem.boot_len (A0 (pv 0) A7)) (A0 (pv 1) A7)))) (fun _ _ _=>D3 (i:=0) (show (["rule","names","rules","lines"]:List Str).Nodup by decide +kernel) rfl (Or.inl rfl)) (fun _ _ _=>K7) (fun _ _ _=>(C0 GSR hr4 rfl mSR kSR bSR .nil D1 (A0 (pv 1) (A0 (pv 0) A7)))))
   (A8 (E3 (C5 (Jr (K:=K) rfl hr.units) (pv 2) (D8 A7) (D0 _)) (B0 (C2 B7)) C9)
   (B0 (C2 (G5 PySem.F.plainAttrs_str PySem.F.slot_str_join PySem.F.type_str_join L1 B7 (A0 (pv 2) A7)))))),?_⟩
  have l7:=NN.l7
  have ln:(nms.map V.str).length=nms.length:=Θl ..
  refine ⟨_,rfl,np,_,rfl,.inl hn,_,rfl,?_⟩
  rw [ln]
  refine ⟨nms.length,rl,rs,rfl,l7,hrl,hR,by omega,fun ks p H1 ek hK lk s1 hp0 hp=>?_⟩
  have lr:(ks.map fun (r:Rl)=>V.ref r.r).length=ks.length:=Θl ..
  refine ⟨p,rfl,⟨_,SqL.of hp⟩,N3 (K:=K) (xs:=ks.map fun (r:Rl)=>V.ref r.r) (fun j acc H'=>Same H H'/\Same H1 H'/\acc=(((ks.map Rl.d).take j).map (E7 nms)).map V.str) (by omega) ⟨s1,Same.refl _,rfl⟩ (fun j acc H' hj h=>?_) (fun j v acc H' hv h=>?_) (fun acc H' h=>?_)⟩
  ·obtain ⟨s4,s5,rfl⟩:=h
   exact ⟨s5.seq (SqL.of hp),by rw [Θl,Θl]; exact List.length_take_le _ _⟩
  ·obtain ⟨s4,s5,rfl⟩:=h
   rw [Θg] at hv
   cases ec:ks[j]? with
   | none=>rw [ec] at hv; cases hv
   | some r=>
    rw [ec] at hv
    obtain rfl:=(Θo hv).symm
    have hr':=hK r (Θe ec)
    refine ⟨rfl,_,rfl,_,rfl,np,nms,r,rfl,s4.seq hn,NN,s5 _ _ hr'.1,hr'.2,fun H5 s6=>⟨s4.trans s6,s5.trans s6,?_⟩⟩
    rw [List.take_succ,Θg,ec,Zw_,Zw_]
    rfl
  obtain ⟨s4,s5,rfl⟩:=h
  have et:(ks.map Rl.d).take (ks.map fun (r:Rl)=>V.ref r.r).length=ks.map Rl.d:=List.take_of_length_le (by rw [lr,Θl]; exact Zd_ _)
  rw [et]
  intro l4 hl4
  have s6:=s4.trans (Same.new (o:=.lst (((ks.map Rl.d).map (E7 nms)).map V.str)) hl4)
  have h6:(upd H' l4 (.lst (((ks.map Rl.d).map (E7 nms)).map V.str))) l4=some (.lst (((ks.map Rl.d).map (E7 nms)).map V.str)):=A6
  generalize upd H' l4 (.lst (((ks.map Rl.d).map (E7 nms)).map V.str))=H6 at s6 h6
  have hin:∀r∈ks.map Rl.d,InR nms r:=Fl hK
  have ok:∀x∈(ks.map Rl.d).map (E7 nms),(∀c∈x.cps.toList,okT c)/\x.length<=150:=fun x hx=>O1 NN hin x (Θd _ hx)
  refine ⟨_,rfl,(by show 0<=sizeLine; decide),fun e0 he0=>?_⟩
  have s7:=s6.trans (Same.new (o:=.lst []) he0)
  have h7:=(Same.new (o:=.lst []) he0) _ _ h6
  have h0:(upd H6 e0 (.lst [])) e0=some (.lst []):=A6
  generalize upd H6 e0 (.lst [])=H7 at s7 h0 h7
  refine ⟨.list (((ks.map Rl.d).map (E7 nms)).map PyData.str),.list (([]:List Str).map PyData.str),.lst (SqL.of h7) (Bt _),.lst (SqL.of h0) .nil,N9 (fun x hx c hc=>(by have:=(ok x hx).1 c hc; unfold okT at this; omega)),N9 (fun w hw=>absurd hw List.not_mem_nil),Z9 Fa _ _,_,rfl,?_⟩
  rw [if_neg Zf_,Cp Km]
  have q1:=q H7 s7
  unfold Acz9 at q1
  rw [<-ek] at q1
  refine F7 (fun hc=>?_) (fun hc=>?_)
  ·have e:(ks.map Rl.d).map (E7 nms)=[]:=Zj_ hc
   rw [if_pos (List.map_eq_nil_iff.mp e)] at q1
   exact q1
  ·have ne:ks.map Rl.d≠[]:=fun e=>hc (Zr_ (by rw [e]; rfl))
   rw [if_neg ne] at q1
   refine ⟨rfl,_,rfl,Ab0,l4,(ks.map Rl.d).map (E7 nms),rfl,rfl,SqL.of h7,Lp (d:=150) (e:=2) (fun x hx=>(ok x hx).2) rfl (by rw [Θl,Θl]; omega),?_⟩
   rw [L0]
   exact q1
end
end Own
namespace Own
open PySem L2
section
variable {P:Program} {w:World} {K:Θf} {mg:Str->Option Value} {base:Heap}
seal PySem.wpAny
noncomputable abbrev Kj:Stmt:=top 78
theorem scPaper:FnScope ["names","paper"] ["names","paper"] (B6 Kj):=⟨rfl,rfl,rfl,by decide +kernel,rfl,by decide +kernel,by decide +kernel⟩
theorem Xh {f fSS:Addr} {fd fdSS:FuncData} (F:Fun K "show_paper" "show_paper" Kj f fd) (GSS:FnOk P w K mg base CX0 4 fSS fdSS ["names","some"] (Y8 K)) (mSS:mg "show_set" = some (.ref fSS)) (kSS:Θk K fSS) (bSS:Binds K fdSS ["names","some"] []) (zstr:mg "str" = none):FnOk P w K mg base CX0 5 f fd ["names","paper"] (Rp K):=by
 refine F.ok scPaper (fun vs H Q E h=>?_) (fun cdv A outer s H vs Q E hr h=>?_)
 ·obtain ⟨np,t,nms,o,l,rfl,_⟩:=h
  rfl
 ·obtain ⟨np,t,nms,o,l,rfl,hn,NN,hP,hb,hl,q⟩:=h
  have nd:=scPaper.nd
  have hr4:Room 4 _:=hr.mono (by decide)
  refine ⟨_,(A8 (E3 (C5 op_eq (C7 (D5 (K:=K) rfl) (pv 1) A9 (fun _ _=>rfl)) B7 (D0 _)) (B0 (C2 (B8 C1 B7 (C0 GSS hr4 rfl mSS kSS bSS .nil D1 (A0 (pv 0) (A0 (C7 (D5 (K:=K) rfl) (pv 1) A9 (fun _ _=>rfl)) A7)))))) C9)
   (B0 (C2 (G5 PySem.F.plainAttrs_str PySem.F.slot_str_join PySem.F.type_str_join L1 B7 (A0 (B8 F2 (D8 (A0 B7 A7)) (G9 (xs:=["step"]) (cs ["names","paper"] (B6 Kj) rfl rfl (by decide +kernel)) rfl (F1 (K:=K) rfl (C7 (D5 (K:=K) rfl) (pv 1) A9 (fun _ _=>rfl))) (fun _ _ _=>D3 (i:=0) (show (["step","names","paper"]:List Str).Nodup by decide +kernel) rfl (Or.inl rfl)) (fun _ _ _=>K7) (fun _ _ _=>(I9 U5 (by rfl) zstr PyProof.Rows.boot_str (A0 (C7 (D5 (K:=K) rfl) (pv 0) A9 (fun _ _=>rfl)) A7))))) A7))))),?_⟩
  rcases hP with ⟨b,rfl,ht⟩ | ⟨rfl,qa,sw,ht,hq,hS,ew,lw⟩
  ·refine ⟨_,rfl,t,_,_,_,rfl,rfl,SqT.of ht,B9 (j:=0) (v:=V.str "no") rfl,rfl,_,rfl,L9 ?_⟩
   refine ⟨_,rfl,_,rfl,t,_,_,_,rfl,rfl,SqT.of ht,B9 (j:=1) (v:=vN b) rfl,np,nms,b,rfl,hn,NN,hb b rfl,fun H1 s1=>?_⟩
   have sl:=L8 NN (hb b rfl)
   have sz:=sizeLine_eq
   exact ⟨_,_,rfl,rfl,by show 3 + _<=sizeLine; omega,q H1 s1⟩
  ·refine ⟨_,rfl,t,_,_,_,rfl,rfl,SqT.of ht,B9 (j:=0) (v:=V.str "yes") rfl,rfl,_,rfl,K9 ?_⟩
   refine ⟨rfl,(by show 1<=sizeLine; decide),fun l1 hl1=>?_⟩
   have s1:=Same.new (o:=.lst [V.str (Str.ofString "yes")]) hl1
   have h1:(upd H l1 (.lst [V.str (Str.ofString "yes")])) l1=some (.lst [V.str (Str.ofString "yes")]):=A6
   generalize upd H l1 (.lst [V.str (Str.ofString "yes")])=H1 at s1 h1
   have lr:(sw.map fun w=>V.ref w.1).length=sw.length:=Θl ..
   refine ⟨_,rfl,t,_,_,_,rfl,rfl,SqT.of (s1 _ _ ht),B9 (j:=1) (v:=.ref qa) rfl,qa,rfl,⟨_,SqL.of (s1 _ _ hq)⟩,N3 (K:=K) (xs:=sw.map fun w=>V.ref w.1) (fun j acc H'=>Same H H'/\H' l1=some (.lst [V.str (Str.ofString "yes")])/\acc=(((sw.map (·.2)).take j).map fun p=>O0 p.1).map V.str) (by omega) ⟨s1,h1,rfl⟩ (fun j acc H' hj h=>?_) (fun j v acc H' hv h=>?_) (fun acc H' h=>?_)⟩
   ·obtain ⟨s4,h4,rfl⟩:=h
    exact ⟨SqL.of (s4 _ _ hq),by rw [Θl,Θl]; exact List.length_take_le _ _⟩
   ·obtain ⟨s4,h4,rfl⟩:=h
    rw [Θg] at hv
    cases ec:sw[j]? with
    | none=>rw [ec] at hv; cases hv
    | some z=>
     rw [ec] at hv
     obtain rfl:=(Θo hv).symm
     have hm:=Θe ec
     have hz:=hl z.2 (by rw [<-ew]; exact List.mem_map_of_mem hm)
     refine ⟨rfl,_,rfl,z.1,_,_,_,rfl,rfl,SqT.of (s4 _ _ (hS z hm)),B9 (j:=0) (v:=vN z.2.1) rfl,_,rfl,?_,s4,h4,?_⟩
     ·show Nat.log2 z.2.1 < 1920
      exact Nat.lt_of_le_of_lt (Nat.log2_le_self _) (by omega)
     rw [List.take_succ,Θg,ec,Zw_,Zw_]
     rfl
   obtain ⟨s4,h4,rfl⟩:=h
   rw [lr,List.take_of_length_le (by rw [Θl]; exact Zd_ _),ew]
   intro l4 hl4
   have s5:=Same.new (o:=.lst ((l.map fun p=>O0 p.1).map V.str)) hl4
   have h5:(upd H' l4 (.lst ((l.map fun p=>O0 p.1).map V.str))) l4=some (.lst ((l.map fun p=>O0 p.1).map V.str)):=A6
   have h45:=s5 _ _ h4
   replace s5:=s4.trans s5
   generalize upd H' l4 (.lst ((l.map fun p=>O0 p.1).map V.str))=H5 at s5 h5 h45
   have ll:l.length<=300:=by rw [<-ew,Θl]; exact lw
   refine ⟨l1,l4,_,_,rfl,rfl,h45,h5,Nat.le_of_lt (D4 (by rw [Θl,Θl]; show 1 + _<=1000; omega)),fun l5 hl5=>?_⟩
   refine ⟨spaceS,l5,Str.ofString "yes" :: l.map fun p=>O0 p.1,rfl,rfl,SqL.of A6,P5 (d:=4) (fun x hx=>?_) rfl (by rw [ZA,Θl]; omega),?_⟩
   ·rcases Zg_.mp hx with rfl | hx
    ·decide
    ·obtain ⟨p,hp,rfl⟩:=Θn hx
     exact Aaj (hl p hp)
   rw [L0]
   exact q _ (s5.trans (Same.new hl5))
noncomputable abbrev Yi:Stmt:=top 79
theorem scTold:FnScope ["names","told","good"] ["names","told","good"] (B6 Yi):=⟨rfl,rfl,rfl,by decide +kernel,rfl,by decide +kernel,by decide +kernel⟩
theorem Aav {f fSS:Addr} {fd fdSS:FuncData} (F:Fun K "show_told" "show_told" Yi f fd) (GSS:FnOk P w K mg base CX0 4 fSS fdSS ["names","some"] (Y8 K)) (mSS:mg "show_set" = some (.ref fSS)) (kSS:Θk K fSS) (bSS:Binds K fdSS ["names","some"] []):FnOk P w K mg base CX0 5 f fd ["names","told","good"] (Rr K):=by
 refine F.ok scTold (fun vs H Q E h=>?_) (fun cdv A outer s H vs Q E hr h=>?_)
 ·obtain ⟨np,t,nms,good,bad,o,rfl,_⟩:=h
  rfl
 ·obtain ⟨np,t,nms,good,bad,o,rfl,hn,NN,hT,gb,bl,hb,q⟩:=h
  have nd:=scTold.nd
  have hr4:Room 4 _:=hr.mono (by decide)
  refine ⟨_,(A8 (E3 (C5 op_eq (C7 (D5 (K:=K) rfl) (pv 1) A9 (fun _ _=>rfl)) (pv 2) (D0 _)) (B0 (C2 (pv 2))) C9)
   (B0 (C2 (B8 C1 (B8 C1 (C7 (D5 (K:=K) rfl) (pv 1) A9 (fun _ _=>rfl)) B7) (C0 GSS hr4 rfl mSS kSS bSS .nil D1 (A0 (pv 0) (A0 (C7 (D5 (K:=K) rfl) (pv 1) A9 (fun _ _=>rfl)) A7))))))),?_⟩
  rcases hT with ⟨rfl,v,ht⟩ | ⟨b,rfl,ht⟩
  ·refine ⟨_,rfl,t,_,_,_,rfl,rfl,SqT.of ht,B9 (j:=0) (v:=V.str good) rfl,_,rfl,rfl,_,rfl,?_⟩
   rw [Zr_ rfl]
   exact L9 ⟨_,rfl,q H (Same.refl _)⟩
  ·refine ⟨_,rfl,t,_,_,_,rfl,rfl,SqT.of ht,B9 (j:=0) (v:=V.str bad) rfl,_,rfl,rfl,_,rfl,?_⟩
   rw [decide_eq_false (fun e=>gb (by injection e with e; exact e.symm))]
   refine K9 ?_
   have sl:=L8 NN (hb b rfl)
   have sz:=sizeLine_eq
   refine ⟨_,rfl,t,_,_,_,rfl,rfl,SqT.of ht,B9 (j:=0) (v:=V.str bad) rfl,bad,_,rfl,rfl,(by show _ + 1<=sizeLine; omega),_,rfl,_,rfl,t,_,_,_,rfl,rfl,SqT.of ht,B9 (j:=1) (v:=vN b) rfl,np,nms,b,rfl,hn,NN,hb b rfl,fun H1 s1=>⟨_,_,rfl,rfl,?_,q H1 s1⟩⟩
   rw [Str.length_append]
   show _ + 1 + _<=sizeLine
   omega
noncomputable abbrev Fr:Stmt:=top 75
theorem scWordsOf:FnScope ["row"] ["row"] (B6 Fr):=⟨rfl,rfl,rfl,by decide +kernel,rfl,by decide +kernel,by decide +kernel⟩
theorem Om {f CNR:Addr} {fd:FuncData} (F:Fun K "words_of" "words_of" Fr f fd) (ONR:Exc K "NoRow" CNR) (zisinstance:mg "isinstance" = none) (zstr:mg "str" = none):FnOk P w K mg base (CX1 P w) 1 f fd ["row"] (Mx K CNR):=by
 refine F.ok1 scWordsOf (fun vs H Q E h=>?_) (fun cdv A outer s H vs Q E hr h=>?_)
 ·obtain ⟨v,rfl,_⟩:=h
  rfl
 ·obtain ⟨v,rfl,h⟩:=h
  have nd:=scWordsOf.nd
  refine ⟨_,(A8 (E3 (W6 (O2 (D7 (Ek (K:=K) rfl) (by rfl) zisinstance PyProof.Rows.boot_isinstance (A0 (pv 0) (A0 (Dx (v:=.ty "str") rfl zstr PyProof.Rows.boot_str rfl) A7))))) (B0 (P6 (EX:=E) ONR (by rfl) rfl (A0 B7 A7) (fun _ _ _ _ _ _ _ I hx hE=>N8 I hx hE))) C9)
   (B0 (C2 (G5 PySem.F.plainAttrs_str PySem.F.slot_str_split PySem.F.type_str_split T9 (pv 0) (A0 B7 A7))))),?_⟩
  rcases h with ⟨z,rfl,lz,q⟩ | ⟨t,ht,hk,qe⟩
  ·refine ⟨_,rfl,_,_,_,true,rfl,.str _,rfl,_,rfl,K9 ?_⟩
   have sl:(Txt.split z spaceS).length<=z.length + 1:=V3 z 32
   refine ⟨_,rfl,rfl,z,spaceS,rfl,rfl,rfl,by omega,by omega,fun ll hll=>?_⟩
   exact q ll _ (Same.new hll) hll A6
  ·refine ⟨_,rfl,_,_,_,false,rfl,ht,hk,_,rfl,L9 ?_⟩
   exact ⟨(by show 1<=sizeLine; decide),qe⟩
end
end Own
namespace Own
open PySem L2
section
variable {P:Program} {w:World} {K:Θf} {mg:Str->Option Value} {base:Heap}
seal PySem.wpAny
noncomputable abbrev Y6:Stmt:=top 44
theorem Pf:FnScope ["some","found"] ["some","found"] (B6 Y6):=⟨rfl,rfl,rfl,by decide +kernel,rfl,by decide +kernel,by decide +kernel⟩
theorem Md {f fIW:Addr} {fd fdIW:FuncData} (F:Fun K "holds_one" "holds_one" Y6 f fd) (GIW:FnOk P w K mg base CX0 1 fIW fdIW ["one","other"] Gb) (mIW:mg "is_within" = some (.ref fIW)) (kIW:Θk K fIW) (bIW:Binds K fdIW ["one","other"] []) (zany:mg "any" = none):FnOk P w K mg base CX0 2 f fd ["some","found"] (Fy K):=by
 refine F.ok Pf (fun vs H Q E h=>?_) (fun cdv A outer s H vs Q E hr h=>?_)
 ·obtain ⟨x,p,f,rfl,_⟩:=h
  rfl
 ·obtain ⟨x,p,f,rfl,hp,lf,q⟩:=h
  have hr1:Room 1 _:=hr.mono (by decide)
  refine ⟨_,(B0 (C2 (D7 (Se (K:=K) rfl rfl) (by rfl) zany PyProof.Rows.boot_any (A0 (G9 (xs:=["inner"]) (cs ["some","found"] (B6 Y6) rfl rfl (by decide +kernel)) rfl (F1 (K:=K) rfl (pv 1)) (fun _ _ _=>D3 (i:=0) (show (["inner","some","found"]:List Str).Nodup by decide +kernel) rfl (Or.inl rfl)) (fun _ _ _=>K7) (fun _ _ _=>(C0 GIW hr1 rfl mIW kIW bIW .nil D1 (A0 (pv 0) (A0 (pv 1) A7))))) A7)))),?_⟩
  refine ⟨_,rfl,p,rfl,⟨_,hp⟩,N3 (K:=K) (xs:=f.map vN) (fun j acc H2=>H2=H/\acc=((f.take j).map fun y=>decide (y&&&x=y)).map V.bl) (by rw [Θl]; omega) ⟨rfl,rfl⟩ (fun j acc H2 hj h=>?_) (fun j v acc H2 hx h=>?_) (fun acc H2 h=>?_)⟩
  ·obtain ⟨rfl,rfl⟩:=h
   exact ⟨hp,by rw [Θl,Θl]; exact List.length_take_le _ _⟩
  ·obtain ⟨rfl,rfl⟩:=h
   rw [Θg] at hx
   cases ey:f[j]? with
   | none=>rw [ey] at hx; cases hx
   | some y=>
    rw [ey] at hx
    obtain rfl:=(Θo hx).symm
    refine ⟨rfl,_,rfl,_,rfl,y,x,rfl,rfl,?_⟩
    rw [List.take_succ,ey,Zw_,Zw_]
    rfl
  ·obtain ⟨rfl,rfl⟩:=h
   rw [Θl,List.take_length]
   intro e he
   refine ⟨e,_,rfl,SqL.of A6,?_⟩
   rw [Abs]
   exact q _ (Same.new he)
noncomputable abbrev Ye:Stmt:=top 45
theorem scKeys:FnScope ["many","rules","whole","found","some"] ["many","rules"] (B6 Ye):=⟨rfl,rfl,rfl,by decide +kernel,rfl,by decide +kernel,by decide +kernel⟩
theorem Aaq {f fAL fSW fHO fSE:Addr} {fd fdAL fdSW fdHO fdSE:FuncData} (F:Fun K "keys" "keys" Ye f fd) (GAL:FnOk P w K mg base CX0 1 fAL fdAL ["many"] Ed) (mAL:mg "all_of" = some (.ref fAL)) (kAL:Θk K fAL) (bAL:Binds K fdAL ["many"] []) (GSW:FnOk P w K mg base CX0 7 fSW fdSW ["some"] Rq) (mSW:mg "sets_within" = some (.ref fSW)) (kSW:Θk K fSW) (bSW:Binds K fdSW ["some"] []) (GHO:FnOk P w K mg base CX0 2 fHO fdHO ["some","found"] (Fy K)) (mHO:mg "holds_one" = some (.ref fHO)) (kHO:Θk K fHO) (bHO:Binds K fdHO ["some","found"] []) (GSE:FnOk P w K mg base CX0 4 fSE fdSE ["many","rules","some"] (Ii K)) (mSE:mg "settled" = some (.ref fSE)) (kSE:Θk K fSE) (bSE:Binds K fdSE ["many","rules","some"] []):FnOk P w K mg base CX0 8 f fd ["many","rules"] (Yw K):=by
 refine F.ok scKeys (fun vs H Q E h=>?_) (fun cdv A outer s H vs Q E hr h=>?_)
 ·obtain ⟨m,rl,rs,rfl,_⟩:=h
  rfl
 ·obtain ⟨m,rl,rs,rfl,m7,hrl,hRs,lr,q⟩:=h
  have nd:=scKeys.nd
  have hr1:Room 1 _:=hr.mono (by decide)
  have hr2:Room 2 _:=hr.mono (by decide)
  have hr4:Room 4 _:=hr.mono (by decide)
  have p7:=Gj m7
  have pw0:0 < 2 ^ m:=Nat.two_pow_pos m
  obtain ⟨l1,l2,_⟩:=Fs m (by omega)
  refine ⟨_,(A8 (C3 (i:=2) nd rfl (Or.inl rfl) (C0 GAL hr1 rfl mAL kAL bAL .nil D1 (A0 (pv 0) A7)))
   (A8 (C3 (i:=3) nd rfl (Or.inl rfl) (D8 A7))
   (A8 (L7 PassesOwn.never rfl (F1 (K:=K) rfl (C0 GSW hr rfl mSW kSW bSW .nil D1 (A0 (pv 2) A7))) (D3 (i:=4) nd rfl (Or.inl rfl)) (B0 (E3 (PW.pt (Xu (W6 (O2 (C0 GHO hr2 rfl mHO kHO bHO .nil D1 (A0 (pv 4) (A0 (pv 3) A7))))) (Qw (C5 N6 (C0 GSE hr4 rfl mSE kSE bSE .nil D1 (A0 (pv 0) (A0 (pv 1) (A0 (pv 4) A7)))) (pv 2) (D0 _))))) (B0 (P0 (G5 PySem.F.plainAttrs_list PySem.F.slot_list_append PySem.F.type_list_append Q8 (pv 3) (A0 (pv 4) A7)))) C9)))
   (B0 (C2 (pv 3)))))),?_⟩
  refine ⟨_,rfl,m,rfl,by omega,?_⟩
  refine ⟨Zp_ _,fun p hp0=>?_⟩
  have s0:=Same.new (o:=.lst []) hp0
  refine ⟨_,rfl,2 ^ m - 1,rfl,by omega,fun d H1 s1 hd0 hd1=>?_⟩
  rw [<-Yp m (by omega)] at hd1
  have hp1:H1 p=some (.lst ((R3 m (rs.map Rl.d) ((K2 m).take 0)).map vN)):=s1 _ _ A6
  refine ⟨d,rfl,⟨_,SqL.of hd1⟩,P3 (K:=K) (xs:=(K2 m).map vN) (fun i σ H'=>(∃v4,σ=[some (vN m),some (.ref rl),some (vN (2 ^ m - 1)),some (.ref p),v4])/\Same H H'/\H' d=some (.lst ((K2 m).map vN))/\H' p=some (.lst ((R3 m (rs.map Rl.d) ((K2 m).take i)).map vN))) ⟨⟨_,rfl⟩,s0.trans s1,hd1,hp1⟩ (fun i σ H' _ h=>SqL.of h.2.2.1) ?_ ?_⟩
  ·rintro i v σ H2 hv ⟨⟨v4,rfl⟩,s2,hd2,hp2⟩
   rw [Θg] at hv
   cases ex:(K2 m)[i]? with
   | none=>rw [ex] at hv; cases hv
   | some x=>
    rw [ex] at hv
    obtain rfl:=(Θo hv).symm
    have hx:x < 2 ^ m:=Zj_ (List.all_eq_true.mp l2 x (Θe ex))
    have hdp:d≠p:=fun e=>by
     rw [e] at hd0
     rw [A6] at hd0
     cases hd0
    obtain ⟨f,ef⟩:∃f,f=R3 m (rs.map Rl.d) ((K2 m).take i):=⟨_,rfl⟩
    have es:R3 m (rs.map Rl.d) ((K2 m).take (i + 1))=Ax m (rs.map Rl.d) f x:=by rw [ef]; exact Nu ex
    have lf:f.length<=128:=by
     have h1:=Hl m (rs.map Rl.d) ((K2 m).take i)
     have h2:((K2 m).take i).length<=(K2 m).length:=List.length_take_le' i _
     rw [ef]; omega
    rw [<-ef] at hp2
    refine ⟨_,rfl,_,rfl,x,p,f,rfl,SqL.of hp2,by omega,fun H3 s3=>⟨_,rfl,F7 (fun hb=>?_) (fun hb=>K9 ?_)⟩⟩
    ·have hw:wiB x f=false:=by
      cases z:wiB x f with
      | false=>rfl
      | true=>rw [z] at hb; cases hb
     refine ⟨_,rfl,_,rfl,_,rfl,m,x,rl,rs,rfl,m7,hx,(s2.trans s3).seq hrl,hRs.same (s2.trans s3),lr,fun u H4 R s4=>?_⟩
     have B:=R.blocks hx
     have s24:=s3.trans s4
     refine ⟨_,rfl,u.fx,2 ^ m - 1,rfl,rfl,_,rfl,F7 (fun hc=>?_) (fun hc=>?_)⟩
     ·have hA:=B.whole.mp (Zj_ hc)
      have hp4:=s24 _ _ hp2
      refine ⟨_,rfl,.inl ⟨rfl,_,SqL.of hp4⟩,_,rfl,p,_,_,rfl,rfl,hp4,D4 (by rw [Θl]; omega),?_⟩
      refine ⟨⟨_,rfl⟩,(s2.trans s24).own hp0,by rw [C8 hdp]; exact s24 _ _ hd2,?_⟩
      rw [A6,es,T5 hw hA,Zw_]; rfl
     ·refine ⟨⟨_,rfl⟩,s2.trans s24,s24 _ _ hd2,?_⟩
      rw [es,Y0 (fun z=>hc (Zr_ (B.whole.mpr z.2)))]
      exact s24 _ _ hp2
    ·refine ⟨⟨_,rfl⟩,s2.trans s3,s3 _ _ hd2,?_⟩
     rw [es,Y0 (fun z=>hb (by rw [z.1]; rfl))]
     exact s3 _ _ hp2
  ·rintro σ H2 ⟨⟨v4,rfl⟩,s2,hd2,hp2⟩
   rw [Θl,List.take_length] at hp2
   exact ⟨_,rfl,q p H2 s2 hp0 hp2⟩
end
end Own
namespace Own
open PySem L2
section
variable {P:Program} {w:World} {K:Θf} {mg:Str->Option Value} {base:Heap}
seal PySem.wpAny
noncomputable abbrev Ov:Stmt:=top 33
theorem scCutIn:FnScope ["many","rules","one","other","told","block"] ["many","rules","one","other"] (B6 Ov):=⟨rfl,rfl,rfl,by decide +kernel,rfl,by decide +kernel,by decide +kernel⟩
theorem Wu {f fIW fAL CCN:Addr} {fd fdIW fdAL:FuncData} (F:Fun K "cut_in_two" "cut_in_two" Ov f fd) (GIW:FnOk P w K mg base CX0 1 fIW fdIW ["one","other"] Gb) (mIW:mg "is_within" = some (.ref fIW)) (kIW:Θk K fIW) (bIW:Binds K fdIW ["one","other"] []) (GAL:FnOk P w K mg base CX0 1 fAL fdAL ["many"] Ed) (mAL:mg "all_of" = some (.ref fAL)) (kAL:Θk K fAL) (bAL:Binds K fdAL ["many"] []) (OCN:Exc K "NoCut" CCN):FnOk P w K mg base (CX1 P w) 2 f fd ["many","rules","one","other"] (Yu CCN):=by
 refine F.ok1 scCutIn (fun vs H Q E h=>?_) (fun cdv A outer s H vs Q E hr h=>?_)
 ·obtain ⟨m,x,y,rl,rfl,_⟩:=h
  rfl
 ·obtain ⟨m,x,y,rl,rfl,m7,hf,qe⟩:=h
  have nd:=scCutIn.nd
  have hr1:Room 1 _:=hr.mono (by decide)
  refine ⟨_,(A8 (E3 (W6 (O2 (C0 GIW hr1 rfl mIW kIW bIW .nil D1 (A0 (C0 GAL hr1 rfl mAL kAL bAL .nil D1 (A0 (pv 0) A7)) (A0 (B8 Ju (pv 2) (pv 3)) A7))))) (B0 (P6 (EX:=E) OCN (by rfl) rfl (A0 B7 A7) (fun _ _ _ _ _ _ _ I hx hE=>N8 I hx hE))) C9) Bg),?_⟩
  refine ⟨_,rfl,m,rfl,by omega,_,rfl,_,rfl,x,y,rfl,rfl,2 ^ m - 1,x|||y,rfl,_,rfl,?_⟩
  have nf:¬(2 ^ m - 1)&&&(x|||y)=2 ^ m - 1:=fun z=>by
   have:=Nat.and_le_right (n:=2 ^ m - 1) (m:=x|||y)
   omega
  rw [decide_eq_false nf]
  exact L9 ⟨(by show 1<=sizeLine; decide),qe _ (Same.refl _)⟩
noncomputable abbrev Jz:Stmt:=top 80
theorem scAnswer:FnScope ["names","rules","words","sets","many","whole_parts"] ["names","rules","words","sets"] (B6 Jz):=⟨rfl,rfl,rfl,by decide +kernel,rfl,by decide +kernel,by decide +kernel⟩
theorem Td {f CCN fTO fSH fPA fFO fST fKY fSC fCI:Addr} {fd fdTO fdSH fdPA fdFO fdST fdKY fdSC fdCI:FuncData} (F:Fun K "answer" "answer" Jz f fd) (GSH:FnOk P w K mg base CX0 5 fSH fdSH ["names","rules"] (Ee K)) (mSH:mg "shown" = some (.ref fSH)) (kSH:Θk K fSH) (bSH:Binds K fdSH ["names","rules"] []) (GPA:FnOk P w K mg base CX0 5 fPA fdPA ["names","paper"] (Rp K)) (mPA:mg "show_paper" = some (.ref fPA)) (kPA:Θk K fPA) (bPA:Binds K fdPA ["names","paper"] []) (GFO:FnOk P w K mg base CX0 4 fFO fdFO ["many","rules","rule"] (Cq K)) (mFO:mg "follows" = some (.ref fFO)) (kFO:Θk K fFO) (bFO:Binds K fdFO ["many","rules","rule"] []) (GST:FnOk P w K mg base CX0 5 fST fdST ["names","sets"] (Mv K)) (mST:mg "show_sets" = some (.ref fST)) (kST:Θk K fST) (bST:Binds K fdST ["names","sets"] []) (GKY:FnOk P w K mg base CX0 8 fKY fdKY ["many","rules"] (Yw K)) (mKY:mg "keys" = some (.ref fKY)) (kKY:Θk K fKY) (bKY:Binds K fdKY ["many","rules"] []) (GSC:FnOk P w K mg base CX0 8 fSC fdSC ["names","rules"] (Ij K)) (mSC:mg "show_cover" = some (.ref fSC)) (kSC:Θk K fSC) (bSC:Binds K fdSC ["names","rules"] []) (GCI:FnOk P w K mg base (CX1 P w) 2 fCI fdCI ["many","rules","one","other"] (Yu CCN)) (mCI:mg "cut_in_two" = some (.ref fCI)) (kCI:Θk K fCI) (bCI:Binds K fdCI ["many","rules","one","other"] []) (GTO:FnOk P w K mg base CX0 5 fTO fdTO ["names","told","good"] (Rr K)) (mTO:mg "show_told" = some (.ref fTO)) (kTO:Θk K fTO) (bTO:Binds K fdTO ["names","told","good"] []) (zlen:mg "len" = none):FnOk P w K mg base (CX1 P w) 9 f fd ["names","rules","words","sets"] (Yt K CCN):=by
 refine F.ok1 scAnswer (fun vs H Q E h=>?_) (fun cdv A outer s H vs Q E hr h=>?_)
 ·obtain ⟨np,rl,wp,sl,nms,rs,ws,ss,rfl,_⟩:=h
  rfl
 ·obtain ⟨np,rl,wp,sl,nms,rs,ws,ss,rfl,hn,NN,hrl,hR,l12,hw,hs,h⟩:=h
  have nd:=scAnswer.nd
  have hr2:Room 2 _:=hr.mono (by decide)
  have hr4:Room 4 _:=hr.mono (by decide)
  have hr5:Room 5 _:=hr.mono (by decide)
  have hr8:Room 8 _:=hr.mono (by decide)
  refine ⟨_,(A8 (C3 (i:=4) nd rfl (Or.inl rfl) (D7 (E4 (K:=K) rfl) (by rfl) zlen PySem.boot_len (A0 (pv 0) A7))) (A8 (E3 (C5 op_eq (C7 (C6 (K:=K) rfl) (pv 2) A9 (fun _ _=>rfl)) B7 (D0 _)) (B0 (C2 (C0 GSH hr5 rfl mSH kSH bSH .nil D1 (A0 (pv 0) (A0 (pv 1) A7))))) C9) (A8 (E3 (C5 op_eq (C7 (C6 (K:=K) rfl) (pv 2) A9 (fun _ _=>rfl)) B7 (D0 _)) (B0 (C2 (C0 GPA hr5 rfl mPA kPA bPA .nil D1 (A0 (pv 0) (A0 (C0 GFO hr4 rfl mFO kFO bFO .nil D1 (A0 (pv 4) (A0 (pv 1) (A0 (G3 (A0 (C7 (C6 (K:=K) rfl) (pv 2) A9 (fun _ _=>rfl)) (A0 (C7 (C6 (K:=K) rfl) (pv 3) A9 (fun _ _=>rfl)) (A0 (C7 (C6 (K:=K) rfl) (pv 3) A9 (fun _ _=>rfl)) A7)))) A7)))) A7))))) C9) (A8 (E3 (C5 op_eq (C7 (C6 (K:=K) rfl) (pv 2) A9 (fun _ _=>rfl)) B7 (D0 _)) (B0 (C2 (C0 GST hr5 rfl mST kST bST .nil D1 (A0 (pv 0) (A0 (C0 GKY hr8 rfl mKY kKY bKY .nil D1 (A0 (pv 4) (A0 (pv 1) A7))) A7))))) C9) (A8 (E3 (C5 op_eq (C7 (C6 (K:=K) rfl) (pv 2) A9 (fun _ _=>rfl)) B7 (D0 _)) (B0 (C2 (C0 GSC hr8 rfl mSC kSC bSC .nil D1 (A0 (pv 0) (A0 (pv 1) A7))))) C9) (A8 (E3 (C5 op_eq (C7 (C6 (K:=K) rfl) (pv 2) A9 (fun _ _=>rfl)) B7 (D0 _)) (B0 (C2 (C0 GTO hr5 rfl mTO kTO bTO .nil D1 (A0 (pv 0) (A0 (C0 GCI hr2 rfl mCI kCI bCI .nil (Hu fun _ _ z=>z) (A0 (pv 4) (A0 (pv 1) (A0 (C7 (C6 (K:=K) rfl) (pv 3) A9 (fun _ _=>rfl)) (A0 (C7 (C6 (K:=K) rfl) (pv 3) A9 (fun _ _=>rfl)) A7))))) (A0 B7 A7)))))) C9) Bg)))))),?_⟩
  have l7:=NN.l7
  have p7:=Gj l7
  have pp:0 < 2 ^ nms.length:=Nat.two_pow_pos _
  have ln:(nms.map V.str).length=nms.length:=Θl ..
  refine ⟨_,rfl,np,_,rfl,.inl (SqL.of hn),?_⟩
  rw [ln]
  rcases h with ⟨a,rfl,rfl,ha,pa,q⟩ | ⟨w1,w2,x,y,rfl,rfl,hf,qe⟩
  ·have qq:∀t,some (Kv nms (rs.map Rl.d) a)=some t->∀H',Same H H'->Q (.str t) H':=fun t e H' s'=>by
    cases e
    exact q H' s'
   cases a with
   | «show»=>
    refine ⟨_,rfl,wp,_,_,_,rfl,rfl,hw,B9 (j:=0) (v:=V.str (Str.ofString "show")) rfl,rfl,_,rfl,L9 ?_⟩
    exact ⟨_,rfl,_,rfl,np,rl,nms,rs,rfl,hn,NN,hrl,hR,l12,fun H1 s1=>qq _ rfl H1 s1⟩
   | fol st x y=>
    obtain ⟨hx,hy⟩:=ha
    refine ⟨_,rfl,wp,_,_,_,rfl,rfl,hw,B9 (j:=0) (v:=V.str (Str.ofString "follows")) rfl,rfl,_,rfl,K9 ?_⟩
    refine ⟨_,rfl,wp,_,_,_,rfl,rfl,hw,B9 (j:=0) (v:=V.str (Str.ofString "follows")) rfl,rfl,_,rfl,L9 ?_⟩
    refine ⟨_,rfl,_,rfl,_,rfl,_,rfl,wp,_,_,_,rfl,rfl,hw,B9 (j:=2) (v:=V.str (D6 st)) rfl,_,rfl,sl,_,_,_,rfl,rfl,hs,B9 (j:=0) (v:=vN x) rfl,_,rfl,sl,_,_,_,rfl,rfl,hs,B9 (j:=1) (v:=vN y) rfl,(by show 3<=sizeLine; decide),fun r hr0=>?_⟩
    have s1:=Same.new (o:=.tup [V.str (D6 st),vN x,vN y]) hr0
    have h1:K8 (upd H r (.tup [V.str (D6 st),vN x,vN y])) r st x y:=A6
    generalize upd H r (.tup [V.str (D6 st),vN x,vN y])=H1 at s1 h1
    refine ⟨nms.length,rl,r,rs,st,x,y,rfl,l7,hx,s1.seq hrl,hR.same s1,by omega,h1,fun z t qa sw H2 R hf s2 ht ht1 hq hq1 st1 e1 l1=>?_,fun z b t H2 R hf s2 ht ht1=>?_⟩
    ·refine ⟨np,t,nms,none,z.st,rfl,SqL.of ((s1.trans s2) _ _ hn),NN,.inr ⟨rfl,qa,sw,ht1,hq1,st1,e1,l1⟩,(fun b e=>by cases e),(fun p hp=>by have:=Qz R (fun p hp=>absurd hp Zi_) p hp; rw [Θl] at this; omega),fun H3 s3=>qq _ ?_ H3 ((s1.trans s2).trans s3)⟩
     show some (Vn nms _ st x y)=_
     unfold Vn Ada
     rw [R.unfF,hf]
    ·refine ⟨np,t,nms,some b,z.st,rfl,SqL.of ((s1.trans s2) _ _ hn),NN,.inl ⟨b,rfl,ht1⟩,(fun c e=>by cases e; exact Adp hx R hf),(fun p hp=>by have:=Qz R (fun p hp=>absurd hp Zi_) p hp; rw [Θl] at this; omega),fun H3 s3=>qq _ ?_ H3 ((s1.trans s2).trans s3)⟩
     show some (Vn nms _ st x y)=_
     unfold Vn Ada
     rw [R.unfF,hf]
   | keys=>
    refine ⟨_,rfl,wp,_,_,_,rfl,rfl,hw,B9 (j:=0) (v:=V.str (Str.ofString "keys")) rfl,rfl,_,rfl,K9 ?_⟩
    refine ⟨_,rfl,wp,_,_,_,rfl,rfl,hw,B9 (j:=0) (v:=V.str (Str.ofString "keys")) rfl,rfl,_,rfl,K9 ?_⟩
    refine ⟨_,rfl,wp,_,_,_,rfl,rfl,hw,B9 (j:=0) (v:=V.str (Str.ofString "keys")) rfl,rfl,_,rfl,L9 ?_⟩
    exact ⟨_,rfl,_,rfl,_,rfl,nms.length,rl,rs,rfl,l7,hrl,hR,by omega,fun p H1 s1 hp0 hp=>⟨np,p,nms,_,rfl,SqL.of (s1 _ _ hn),NN,SqL.of hp,Vw l7,Aae l7,fun H2 s2=>qq _ rfl H2 (s1.trans s2)⟩⟩
   | cover=>
    refine ⟨_,rfl,wp,_,_,_,rfl,rfl,hw,B9 (j:=0) (v:=V.str (Str.ofString "cover")) rfl,rfl,_,rfl,K9 ?_⟩
    refine ⟨_,rfl,wp,_,_,_,rfl,rfl,hw,B9 (j:=0) (v:=V.str (Str.ofString "cover")) rfl,rfl,_,rfl,K9 ?_⟩
    refine ⟨_,rfl,wp,_,_,_,rfl,rfl,hw,B9 (j:=0) (v:=V.str (Str.ofString "cover")) rfl,rfl,_,rfl,K9 ?_⟩
    refine ⟨_,rfl,wp,_,_,_,rfl,rfl,hw,B9 (j:=0) (v:=V.str (Str.ofString "cover")) rfl,rfl,_,rfl,L9 ?_⟩
    exact ⟨_,rfl,_,rfl,np,rl,nms,rs,rfl,SqL.of hn,NN,hrl,hR,l12,fun H1 s1=>qq _ rfl H1 s1⟩
   | cut x y=>cases pa
   | parts=>cases pa
   | tree=>cases pa
   | part x y=>cases pa
  ·refine ⟨_,rfl,wp,_,_,_,rfl,rfl,hw,B9 (j:=0) (v:=V.str Dq) rfl,rfl,_,rfl,K9 ?_⟩
   refine ⟨_,rfl,wp,_,_,_,rfl,rfl,hw,B9 (j:=0) (v:=V.str Dq) rfl,rfl,_,rfl,K9 ?_⟩
   refine ⟨_,rfl,wp,_,_,_,rfl,rfl,hw,B9 (j:=0) (v:=V.str Dq) rfl,rfl,_,rfl,K9 ?_⟩
   refine ⟨_,rfl,wp,_,_,_,rfl,rfl,hw,B9 (j:=0) (v:=V.str Dq) rfl,rfl,_,rfl,K9 ?_⟩
   refine ⟨_,rfl,wp,_,_,_,rfl,rfl,hw,B9 (j:=0) (v:=V.str Dq) rfl,rfl,_,rfl,L9 ?_⟩
   exact ⟨_,rfl,_,rfl,_,rfl,_,rfl,sl,_,_,_,rfl,rfl,hs,B9 (j:=0) (v:=vN x) rfl,_,rfl,sl,_,_,_,rfl,rfl,hs,B9 (j:=1) (v:=vN y) rfl,nms.length,x,y,rl,rfl,l7,hf,qe⟩
end
end Own
namespace Own
open PySem L2
section
variable {P:Program} {w:World} {K:Θf} {mg:Str->Option Value} {base:Heap}
seal PySem.wpAny
noncomputable abbrev Bl:Stmt:=top 73
theorem scHasForm:FnScope ["words","form"] ["words","form"] (B6 Bl):=⟨rfl,rfl,rfl,by decide +kernel,rfl,by decide +kernel,by decide +kernel⟩
theorem Od {f:Addr} {fd:FuncData} (F:Fun K "has_form" "has_form" Bl f fd) (zlen:mg "len" = none) (zzip:mg "zip" = none) (zall:mg "all" = none):FnOk P w K mg base CX0 1 f fd ["words","form"] (Ie K):=by
 refine F.ok scHasForm (fun vs H Q E h=>?_) (fun cdv A outer s H vs Q E hr h=>?_)
 ·obtain ⟨wp,fp,ws,fs,rfl,_⟩:=h
  rfl
 ·obtain ⟨wp,fp,ws,fs,rfl,hw,hf,lw,lf,q⟩:=h
  have nd:=scHasForm.nd
  have mw:(ws.map V.str).length=ws.length:=Θl ..
  have mf:(fs.map V.str).length=fs.length:=Θl ..
  refine ⟨_,(A8 (E3 (C5 Fd (D7 (E4 (K:=K) rfl) (by rfl) zlen PySem.boot_len (A0 (pv 0) A7)) (D7 (E4 (K:=K) rfl) (by rfl) zlen PySem.boot_len (A0 (pv 1) A7)) (D0 _)) (B0 (C2 W4)) C9)
   (B0 (C2 (D7 (Bx (K:=K) rfl rfl) (by rfl) zall PyProof.Rows.boot_all (A0 (G9 (xs:=["place","word"]) (cs ["words","form"] (B6 Bl) rfl rfl (by decide +kernel)) rfl (Qv (K:=K) rfl (by rfl) zzip (A0 (pv 1) (A0 (pv 0) A7))) (fun _ _ _=>Qu (K:=K) (n:=2) rfl rfl (F3 (D3 (i:=0) (show (["place","word","words","form"]:List Str).Nodup by decide +kernel) rfl (Or.inl rfl)) (F3 (D3 (i:=1) (show (["place","word","words","form"]:List Str).Nodup by decide +kernel) rfl (Or.inl rfl)) Q6)) rfl rfl) (fun _ _ _=>K7) (fun _ _ _=>(Aew (N4 (Js (K:=K) rfl) (pv 0) (G3 (A0 B7 (A0 B7 A7))) (by rfl)) (Xp (N4 op_eq (pv 0) (pv 1) (D0 _)))))) A7))))),?_⟩
  refine ⟨_,rfl,wp,_,rfl,.inl hw,_,rfl,fp,_,rfl,.inr hf,(ws.map V.str).length,(fs.map V.str).length,rfl,rfl,_,rfl,?_⟩
  rw [mw,mf]
  refine F7 (fun hc=>?_) (fun hc=>?_)
  ·have ne:¬ws.length=fs.length:=by simpa using hc
   have e:P9 ws fs=false:=by unfold P9; rw [decide_eq_false ne]; rfl
   have:=q H (Same.refl _)
   rw [e] at this
   exact this
  have le:ws.length=fs.length:=by simpa using hc
  refine ⟨_,rfl,_,rfl,fp,wp,_,_,rfl,hf,hw,Qo (K:=K) (xs:=fs.map V.str) (ys:=ws.map V.str) (n:=2) (fun j acc H'=>Same H H'/\acc=(((fs.zip ws).take j).map fun p=>Ds p.1 p.2).map V.bl) (by omega) (by omega) ⟨Same.refl _,rfl⟩ (fun j acc H' hj h=>?_) (fun j x y acc H' t hx hy h ht=>?_) (fun acc H' h=>?_)⟩
  ·obtain ⟨s4,rfl⟩:=h
   exact ⟨⟨s4.tupS hf,s4.seq hw⟩,by rw [Θl,Θl]; exact List.length_take_le _ _⟩
  ·obtain ⟨s4,rfl⟩:=h
   rw [Θg] at hx hy
   cases e1:fs[j]? with
   | none=>rw [e1] at hx; cases hx
   | some x'=>
    cases e2:ws[j]? with
    | none=>rw [e2] at hy; cases hy
    | some y'=>
     rw [e1] at hx
     rw [e2] at hy
     obtain rfl:=(Θo hx).symm
     obtain rfl:=(Θo hy).symm
     have s5:=s4.trans (Same.new (o:=.tup [V.str x',V.str y']) ht)
     refine ⟨t,_,rfl,SqT.of A6,rfl,_,_,rfl,_,_,rfl,rfl,rfl,?_⟩
     generalize upd H' t (.tup [V.str x',V.str y'])=H5 at s5
     have ez:(fs.zip ws)[j]? = some (x',y'):=by rw [List.getElem?_zip_eq_some]; exact ⟨e1,e2⟩
     have fin:∀(H6:Hp),Same H H6->Same H H6/\((((fs.zip ws).take j).map fun p=>Ds p.1 p.2).map V.bl)++[V.bl (Ds x' y')]=(((fs.zip ws).take (j + 1)).map fun p=>Ds p.1 p.2).map V.bl:=fun H6 s6=>⟨s6,by rw [List.take_succ,ez,Zw_,Zw_]; rfl⟩
     refine ⟨_,rfl,(by show 2<=sizeLine; decide),fun p hp=>?_⟩
     have s6:=s5.trans (Same.new (o:=.tup [V.str F0,V.str Aa]) hp)
     refine ⟨p,_,rfl,.inr (SqT.of A6),rfl,rfl,_,rfl,?_⟩
     rw [if_neg Zf_]
     show if inV (.str x') [V.str F0,V.str Aa]=true then _ else _
     rw [Aaa]
     refine F7 (fun hc2=>?_) (fun hc2=>?_)
     ·have e:Ds x' y' = true:=by unfold Ds; rw [hc2]; rfl
      have:=fin _ s6
      rw [e] at this
      exact this
     ·have e:Ds x' y' = decide (x' = y'):=by unfold Ds; rw [Bool.eq_false_iff.mpr hc2]; rfl
      refine ⟨_,rfl,_,rfl,rfl,?_⟩
      have:=fin _ s6
      rw [e] at this
      have e3:decide (V.str x' = V.str y')=decide (x' = y'):=decide_eq_decide.mpr ⟨fun e=>by injection e,fun e=>by rw [e]⟩
      show _/\_
      rw [e3]
      exact this
  obtain ⟨s4,rfl⟩:=h
  intro l2 hl2
  refine ⟨l2,((fs.zip ws).take (fs.map V.str).length).map fun p=>Ds p.1 p.2,rfl,SqL.of A6,?_⟩
  have e:(((fs.zip ws).take (fs.map V.str).length).map fun p=>Ds p.1 p.2).all id=P9 ws fs:=by
   rw [List.take_of_length_le (by rw [mf,List.length_zip]; omega),List.all_map]
   unfold P9
   rw [Zr_ le]
   rfl
  rw [e]
  exact q _ (s4.trans (Same.new hl2))
noncomputable abbrev Kc:Stmt:=top 74
theorem scFormOf:FnScope ["words","form"] ["words"] (B6 Kc):=⟨rfl,rfl,rfl,by decide +kernel,rfl,by decide +kernel,by decide +kernel⟩
theorem Tg {f fHF FA CNR:Addr} {fas:List Addr} {fd fdHF:FuncData} (F:Fun K "form_of" "form_of" Kc f fd) (GHF:FnOk P w K mg base CX0 1 fHF fdHF ["words","form"] (Ie K)) (mHF:mg "has_form" = some (.ref fHF)) (kHF:Θk K fHF) (bHF:Binds K fdHF ["words","form"] []) (mFM:mg "FORMS" = some (.ref FA)) (hFM:FMT K FA fas) (ONR:Exc K "NoRow" CNR):FnOk P w K mg base (CX1 P w) 2 f fd ["words"] (Rj K fas CNR):=by
 refine F.ok1 scFormOf (fun vs H Q E h=>?_) (fun cdv A outer s H vs Q E hr h=>?_)
 ·obtain ⟨wp,ws,rfl,_⟩:=h
  rfl
 ·obtain ⟨wp,ws,rfl,hw,lw,q,qe⟩:=h
  have nd:=scFormOf.nd
  have hr1:Room 1 _:=hr.mono (by decide)
  refine ⟨_,(A8 (PS.nox5 (L7 PassesOwn.never rfl (Aa5 (K:=K) rfl (L3 (v:=.ref FA) (by rfl) mFM rfl)) (D3 (i:=1) nd rfl (Or.inl rfl)) (B0 (E3 (O2 (C0 GHF hr1 rfl mHF kHF bHF .nil D1 (A0 (pv 0) (A0 (pv 1) A7)))) (B0 (C2 (pv 1))) C9))))
   (B0 (P6 (EX:=E) ONR (by rfl) rfl (A0 B7 A7) (fun _ _ _ _ _ _ _ I hx hE=>N8 I hx hE)))),?_⟩
  have ml:(fas.map V.ref).length=12:=by rw [Θl,hFM.len]
  refine ⟨FA,rfl,⟨_,hFM.all _⟩,Zx (xs:=fas.map V.ref) (fun i σ H'=>(∃v1,σ=[some (.ref wp),v1])/\Same H H'/\∀j fs,j < i->formsL[j]? = some fs->P9 ws fs=false) ⟨⟨_,rfl⟩,Same.refl _,fun j fs hj=>absurd hj (Nat.not_lt_zero j)⟩ (fun i σ H' _ h=>hFM.all _) ?_ ?_⟩
  ·rintro i v σ H1 hv ⟨⟨v1,rfl⟩,s1,hi⟩
   rw [Θg] at hv
   cases ei:fas[i]? with
   | none=>rw [ei] at hv; cases hv
   | some g=>
    rw [ei] at hv
    obtain rfl:=(Θo hv).symm
    have il:i < formsL.length:=by
     rw [Hh,<-hFM.len]
     exact (Ze_.mp ei).1
    have eg:=Θh il
    refine ⟨_,rfl,_,rfl,wp,g,ws,_,rfl,s1.seq hw,hFM.one i g _ ei eg H1,lw,Ll eg,fun H2 s2=>⟨_,rfl,F7 (fun hc=>?_) (fun hc=>?_)⟩⟩
    ·exact ⟨_,rfl,q i g _ ei eg hc _ (s1.trans s2)⟩
    ·refine ⟨⟨_,rfl⟩,s1.trans s2,fun j fs hj e=>?_⟩
     rcases Nat.lt_succ_iff_lt_or_eq.mp hj with lt | rfl
     ·exact hi j fs lt e
     ·rw [eg] at e
      cases e
      exact Bool.eq_false_iff.mpr hc
  ·rintro σ H1 ⟨⟨v1,rfl⟩,s1,hk⟩
   refine ⟨(by show 1<=sizeLine; decide),qe (fun fs hf=>?_) _ s1⟩
   obtain ⟨j,hj⟩:=List.getElem?_of_mem hf
   refine hk j fs ?_ hj
   rw [ml,<-Hh]
   exact (Ze_.mp hj).1
end
end Own
namespace Own
open PySem L2
section
variable {P:Program} {w:World} {K:Θf} {mg:Str->Option Value} {base:Heap}
seal PySem.wpAny
noncomputable abbrev Pc:Stmt:=Au (top 81) 1
theorem scSay:FnScope ["self","row","words","form","sets"] ["self","row"] (B6 Pc):=⟨rfl,rfl,rfl,by decide +kernel,rfl,by decide +kernel,by decide +kernel⟩
theorem Ac2 {f fWO fFM fRS fAN fLE fDR CD CNR CST CCN CTM:Addr} {fas:List Addr} {fd fdWO fdFM fdRS fdAN fdLE fdDR:FuncData} (F:Fun K "say" "Desk.say" Pc f fd) (GWO:FnOk P w K mg base (CX1 P w) 1 fWO fdWO ["row"] (Mx K CNR)) (mWO:mg "words_of" = some (.ref fWO)) (kWO:Θk K fWO) (bWO:Binds K fdWO ["row"] []) (GFM:FnOk P w K mg base (CX1 P w) 2 fFM fdFM ["words"] (Rj K fas CNR)) (mFM:mg "form_of" = some (.ref fFM)) (kFM:Θk K fFM) (bFM:Binds K fdFM ["words"] []) (GRS:FnOk P w K mg base (CX1 P w) 2 fRS fdRS ["names","text"] (Ih K CST)) (mRS:mg "read_set" = some (.ref fRS)) (kRS:Θk K fRS) (bRS:Binds K fdRS ["names","text"] []) (GAN:FnOk P w K mg base (CX1 P w) 9 fAN fdAN ["names","rules","words","sets"] (Yt K CCN)) (mAN:mg "answer" = some (.ref fAN)) (kAN:Θk K fAN) (bAN:Binds K fdAN ["names","rules","words","sets"] []) (ML:Meth K CD "let" fLE) (GLE:FnOk P w K mg base (CX1 P w) 1 fLE fdLE ["self","rule"] (Yx CD CST CTM)) (bLE:Binds K fdLE ["self","rule"] []) (MD:Meth K CD "drop" fDR) (GDR:FnOk P w K mg base (CX1 P w) 1 fDR fdDR ["self","word"] (Ri CD CNR)) (bDR:Binds K fdDR ["self","word"] []) (zzip:mg "zip" = none) (fone:∀(k:Nat) (f:Addr) (fs:List Str),fas[k]? = some f->formsL[k]? = some fs->∀H:Hp,SqT K H f (fs.map V.str)) (T:DK K CD):FnOk P w K mg base (CX1 P w) 10 f fd ["self","row"] (Cr K CD CNR CST CCN CTM):=by
 refine F.ok1 scSay (fun vs H Q E h=>?_) (fun cdv A outer s H vs Q E hr h=>?_)
 ·obtain ⟨d,np,rl,nms,rs,v,rfl,_⟩:=h
  rfl
 ·obtain ⟨d,np,rl,nms,rs,v,rfl,hD,hn,NN,hrl,hR,l12,h⟩:=h
  have nd:=scSay.nd
  have hr1:Room 1 _:=hr.mono (by decide)
  have hr2:Room 2 _:=hr.mono (by decide)
  have hrA:Room 9 _:=hr.mono (by decide)
  obtain ⟨dx,hd⟩:=hD
  refine ⟨_,(A8 (C3 (i:=2) nd rfl (Or.inl rfl) (C0 GWO hr1 rfl mWO kWO bWO .nil (Hu fun _ _ z=>z) (A0 (pv 1) A7)))
   (A8 (C3 (i:=3) nd rfl (Or.inl rfl) (C0 GFM hr2 rfl mFM kFM bFM .nil (Hu fun _ _ z=>z) (A0 (pv 2) A7)))
   (A8 (Xr (ET:=E) (i:=4) (xs:=["place","word"]) (cs ["self","row","words","form","sets"] (B6 Pc) rfl rfl (by decide +kernel)) rfl rfl rfl (Wb fun _ _ z=>z) nd rfl rfl (Qv (K:=K) rfl (by rfl) zzip (A0 (pv 3) (A0 (pv 2) A7))) (fun _ _ _=>Qu (K:=K) (n:=2) rfl rfl (F3 (D3 (i:=0) (show (["place","word","self","row","words","form","sets"]:List Str).Nodup by decide +kernel) rfl (Or.inl rfl)) (F3 (D3 (i:=1) (show (["place","word","self","row","words","form","sets"]:List Str).Nodup by decide +kernel) rfl (Or.inl rfl)) Q6)) rfl rfl) (fun _ _ _=>(Y4 (C5 op_eq (pv 0) B7 (D0 _)))) (fun _ _ _=>(C0 GRS hr2 rfl mRS kRS bRS .nil (Aev fun _ _ z=>z) (A0 (Be (K:=K) rfl (pv 2) rfl) (A0 (pv 1) A7)))))
   (A8 (E3 (C5 op_eq (C7 (C6 (K:=K) rfl) (pv 2) A9 (fun _ _=>rfl)) B7 (D0 _)) (B0 (C2 (Bf (pv 0) T.cl ML GLE hr1 bLE .nil (Hu fun _ _ z=>z) (A0 (G3 (A0 (C7 (C6 (K:=K) rfl) (pv 2) A9 (fun _ _=>rfl)) (A0 (C7 (C6 (K:=K) rfl) (pv 4) A9 (fun _ _=>rfl)) (A0 (C7 (C6 (K:=K) rfl) (pv 4) A9 (fun _ _=>rfl)) A7)))) A7)))) C9)
   (A8 (E3 (C5 op_eq (C7 (C6 (K:=K) rfl) (pv 2) A9 (fun _ _=>rfl)) B7 (D0 _)) (B0 (C2 (Bf (pv 0) T.cl MD GDR hr1 bDR .nil (Hu fun _ _ z=>z) (A0 (C7 (C6 (K:=K) rfl) (pv 2) A9 (fun _ _=>rfl)) A7)))) C9)
   (B0 (C2 (C0 GAN hrA rfl mAN kAN bAN .nil (Hu fun _ _ z=>z) (A0 (Be (K:=K) rfl (pv 0) rfl) (A0 (Be (K:=K) rfl (pv 0) rfl) (A0 (pv 2) (A0 (pv 4) A7)))))))))))),?_⟩
  rcases h with ⟨t,ht,hk,qe⟩ | ⟨z,rfl,lz,cz,h⟩
  ·exact ⟨_,rfl,_,rfl,.inr ⟨t,ht,hk,qe⟩⟩
  refine ⟨_,rfl,_,rfl,.inl ⟨z,rfl,lz,fun wp H1 s1 hw0 hw=>?_⟩⟩
  have ls:(Txt.split z spaceS).length<=z.length + 1:=V3 z 32
  have as:=Il (c:=32) (by omega:z.length<=1000) cz
  replace as:∀w∈Txt.split z spaceS,w.length<=1000/\(∀c∈w.cps.toList,c < 128):=as
  have wl:∀w∈Txt.split z spaceS,w.length<=300:=fun w hw'=>Zo_ (Pj (c:=32) hw') (by omega)
  generalize Txt.split z spaceS=ws at h hw ls as wl
  refine ⟨_,rfl,wp,ws,rfl,SqL.of hw,by omega,fun k fa fs ea ef fit H2 s2=>?_,fun no H2 s2=>?nofm⟩
  case nofm=>
   rcases h with ⟨_,qe⟩ | ⟨fs,hm,fit,_⟩
   ·exact qe _ (s1.trans s2)
   ·rw [no fs hm] at fit
    cases fit
  rcases h with ⟨no,_⟩ | ⟨fs',hm,fit',one,he,ht⟩
  ·rw [no fs (Θe ef)] at fit
   cases fit
  obtain rfl:=one fs (Θe ef) fit
  have hf:=fone _ _ _ ea ef
  have hw2:=s2 _ _ hw
  replace s2:=s1.trans s2
  have le:ws.length=fs.length:=by
   unfold P9 at fit
   rw [Bool.and_eq_true] at fit
   exact Zj_ fit.1
  have m1:(fs.map V.str).length=fs.length:=Θl ..
  have m2:(ws.map V.str).length=fs.length:=by rw [Θl,le]
  have lz':(fs.zip ws).length=fs.length:=by rw [List.length_zip]; omega
  refine ⟨_,rfl,_,rfl,fa,wp,_,_,rfl,hf _,SqL.of hw2,Qo (K:=K) (xs:=fs.map V.str) (ys:=ws.map V.str) (n:=2) (fun j acc H'=>Same H H'/\Same H2 H'/\∃ss,acc=ss.map vN/\All2 (RdS nms) ((((fs.zip ws).take j).filter fun p=>decide (p.1=F0)).map (·.2)) ss) (by omega) (by omega) ⟨s2,Same.refl _,[],rfl,.nil⟩ (fun j acc H' hj h=>?_) (fun j x y acc H' t hx hy h ht'=>?_) (fun acc H' h=>?_)⟩
  ·obtain ⟨s4,s5,ss,rfl,al⟩:=h
   refine ⟨⟨hf _,SqL.of (s5 _ _ hw2)⟩,?_⟩
   rw [Θl,<-al.len,Θl]
   exact Zo_ (List.length_filter_le _ _) (List.length_take_le _ _)
  ·obtain ⟨s4,s5,ss,rfl,al⟩:=h
   rw [Θg] at hx hy
   cases e1:fs[j]? with
   | none=>rw [e1] at hx; cases hx
   | some x'=>
    cases e2:ws[j]? with
    | none=>rw [e2] at hy; cases hy
    | some y'=>
     rw [e1] at hx
     rw [e2] at hy
     obtain rfl:=(Θo hx).symm
     obtain rfl:=(Θo hy).symm
     have s6:=Same.new (o:=.tup [V.str x',V.str y']) ht'
     have s7:=s4.trans s6
     replace s6:=s5.trans s6
     refine ⟨t,_,rfl,SqT.of A6,rfl,_,_,rfl,_,_,rfl,rfl,rfl,?_⟩
     generalize upd H' t (.tup [V.str x',V.str y'])=H5 at s6 s7
     have ez:(fs.zip ws)[j]? = some (x',y'):=by rw [List.getElem?_zip_eq_some]; exact ⟨e1,e2⟩
     have et:(fs.zip ws).take (j + 1)=(fs.zip ws).take j++[(x',y')]:=by rw [List.take_succ,ez]; rfl
     refine ⟨_,rfl,rfl,_,rfl,?_⟩
     rw [show decide (V.str x' = V.str (Str.ofString "SET"))=decide (x' = F0) from decide_eq_decide.mpr ⟨fun e=>by injection e,fun e=>by rw [e]; rfl⟩]
     refine F7 (fun hc=>?_) (fun hc=>?_)
     ·have hw':y'∈Dk fs ws:=Θm ⟨(x',y'),List.mem_filter.mpr ⟨Θe ez,hc⟩,rfl⟩
      have fin:∀H6 v,Same H5 H6->RdS nms y' v->Same H H6/\Same H2 H6/\∃ss',ss.map vN++[vN v]=ss'.map vN/\All2 (RdS nms) ((((fs.zip ws).take (j + 1)).filter fun p=>decide (p.1=F0)).map (·.2)) ss':=fun H6 v s8 hv=>by
       refine ⟨s7.trans s8,s6.trans s8,ss++[v],by rw [Zw_]; rfl,?_⟩
       rw [et,List.filter_append,Zw_,List.filter_cons_of_pos (by exact hc)]
       exact al.snoc hv
      have hy':=Θe e2
      refine ⟨_,rfl,d,CD,dx,_,_,rfl,s7 _ _ hd,T.cl,T.nN,rfl,_,rfl,np,nms,_,rfl,SqL.of (s7 _ _ hn),NN,wl _ hy',(fun c hc'=>Zq_ ((as _ hy').2 c hc') (by decide)),fun e0=>?_,fun v H6 s8 n0 hz es=>?_,fun no H6 s8=>?_⟩
      ·exact fin _ 0 (Same.refl _) (.inl ⟨e0,rfl⟩)
      ·exact fin _ v s8 (.inr ⟨n0,hz,es⟩)
      ·exact he y' hw' no _ (s7.trans s8)
     ·refine ⟨s7,s6,ss,rfl,?_⟩
      rw [et,List.filter_append,List.filter_cons_of_neg (by exact hc),List.filter_nil,List.append_nil]
      exact al
  obtain ⟨s4,s5,ss,rfl,al⟩:=h
  rw [m1,List.take_of_length_le (by omega)] at al
  have row:=ht ss al
  intro l2 hl2
  have s6:=Same.new (o:=.lst (ss.map vN)) hl2
  have h6:(upd H' l2 (.lst (ss.map vN))) l2=some (.lst (ss.map vN)):=A6
  have hw6:=s6 _ _ (s5 _ _ hw2)
  replace s6:=s4.trans s6
  generalize upd H' l2 (.lst (ss.map vN))=H6 at s6 h6 hw6
  have hd6:=s6 _ _ hd
  replace row:=row.same s6
  rcases row with ⟨w1,w2,w3,x,y,rfl,rfl,q0,q1⟩ | ⟨w1,rfl,no,qe⟩ | row
  ·refine ⟨_,rfl,wp,_,_,_,rfl,rfl,SqL.of hw6,B9 (j:=0) (v:=V.str Jk) rfl,rfl,_,rfl,L9 ?_⟩
   refine ⟨_,rfl,d,dx,_,rfl,hd6,rfl,_,rfl,wp,_,_,_,rfl,rfl,SqL.of hw6,B9 (j:=2) (v:=V.str w2) rfl,_,rfl,l2,_,_,_,rfl,rfl,SqL.of h6,B9 (j:=0) (v:=vN x) rfl,_,rfl,l2,_,_,_,rfl,rfl,SqL.of h6,B9 (j:=1) (v:=vN y) rfl,(by show 3<=sizeLine; decide),fun r hr0=>?_⟩
   have s7:=Same.new (o:=.tup [V.str w2,vN x,vN y]) hr0
   refine ⟨d,np,rl,r,_,w2,x,y,rfl,⟨dx,s7 _ _ hd6⟩,s7 _ _ (s6 _ _ hrl),by rw [Θl]; exact l12,A6,fun e=>q0 e _ s7,fun e=>⟨?_,(q1 e).2 _ s7⟩⟩
   rw [Θl,(q1 e).1]
   exact Zd_ _
  ·refine ⟨_,rfl,wp,_,_,_,rfl,rfl,SqL.of hw6,B9 (j:=0) (v:=V.str Eo) rfl,rfl,_,rfl,K9 ?_⟩
   refine ⟨_,rfl,wp,_,_,_,rfl,rfl,SqL.of hw6,B9 (j:=0) (v:=V.str Eo) rfl,rfl,_,rfl,L9 ?_⟩
   exact ⟨_,rfl,d,dx,_,rfl,hd6,rfl,_,rfl,wp,_,_,_,rfl,rfl,SqL.of hw6,B9 (j:=1) (v:=V.str w1) rfl,d,np,rl,_,w1,rfl,⟨dx,hd6⟩,s6 _ _ hrl,by rw [Θl]; exact l12,(fun i hi=>no i (by rw [Θl] at hi; exact hi)),qe⟩
  ·obtain ⟨w0,ew0,n1,n2⟩:∃w:Str,(ws.map V.str)[0]? = some (V.str w)/\¬V.str w=V.str (Str.ofString "let")/\¬V.str w=V.str (Str.ofString "drop"):=by
    rcases row with ⟨a,rfl,_⟩ | ⟨w1,w2,x,y,rfl,_⟩
    ·exact Uw nms a
    ·exact ⟨Dq,rfl,by decide,by decide⟩
   refine ⟨_,rfl,wp,_,_,_,rfl,rfl,SqL.of hw6,B9 (j:=0) (v:=V.str w0) ew0,rfl,_,rfl,?_⟩
   rw [decide_eq_false n1]
   refine K9 ?_
   refine ⟨_,rfl,wp,_,_,_,rfl,rfl,SqL.of hw6,B9 (j:=0) (v:=V.str w0) ew0,rfl,_,rfl,?_⟩
   rw [decide_eq_false n2]
   refine K9 ?_
   exact ⟨_,rfl,d,CD,dx,_,_,rfl,hd6,T.cl,T.nN,rfl,_,rfl,d,CD,dx,_,_,rfl,hd6,T.cl,T.nR,rfl,_,rfl,_,rfl,np,rl,wp,l2,nms,rs,ws,ss,rfl,s6 _ _ hn,NN,SqL.of (s6 _ _ hrl),hR.same s6,l12,SqL.of hw6,SqL.of h6,row⟩
end
end Own
namespace Own
open PySem L2
section
variable {P:Program} {w:World} {K:Θf} {mg:Str->Option Value} {base:Heap}
seal PySem.wpAny
noncomputable abbrev Hz:Stmt:=Au (top 81) 2
theorem scDLet:FnScope ["self","rule"] ["self","rule"] (B6 Hz):=⟨rfl,rfl,rfl,by decide +kernel,rfl,by decide +kernel,by decide +kernel⟩
theorem Aao {f CD CTM CST:Addr} {fd:FuncData} {tkMR:PySem.Tok} (F:Fun K "let" "Desk.let" Hz f fd) (OTM:Exc K "TooMany" CTM) (OST:Exc K "NoSet" CST) (mMR:mg "MOST_RULES" = some (.int 12 tkMR)) (T:DK K CD) (zlen:mg "len" = none):FnOk P w K mg base (CX1 P w) 1 f fd ["self","rule"] (Yx CD CST CTM):=by
 refine F.ok1 scDLet (fun vs H Q E h=>?_) (fun cdv A outer s H vs Q E hr h=>?_)
 ·obtain ⟨d,np,rl,r,xs,st,x,y,rfl,_⟩:=h
  rfl
 ·obtain ⟨d,np,rl,r,xs,st,x,y,rfl,hD,hrl,l12,hr0,q0,q1⟩:=h
  have nd:=scDLet.nd
  obtain ⟨dx,hd⟩:=hD
  refine ⟨_,(A8 (E3 (C5 N6 (C7 (D5 (K:=K) rfl) (pv 1) A9 (fun _ _=>rfl)) A9 (D0 _)) (B0 (P6 (EX:=E) OST (by rfl) rfl (A0 B7 A7) (fun _ _ _ _ _ _ _ I hx hE=>N8 I hx hE))) C9) (A8 (E3 (C5 Ac5 (D7 (E4 (K:=K) rfl) (by rfl) zlen PySem.boot_len (A0 (Be (K:=K) rfl (pv 0) rfl) A7)) (L3 (v:=vN 12) (by rfl) mMR ⟨_,rfl⟩) (D0 _)) (B0 (P6 (EX:=E) OTM (by rfl) rfl (A0 (Xm (L3 (v:=vN 12) (by rfl) mMR ⟨_,rfl⟩)) A7) (fun _ _ _ _ _ _ _ I hx hE=>N8 I hx hE))) C9) Bg)),?_⟩
  refine ⟨_,rfl,r,_,_,_,rfl,rfl,SqT.of hr0,B9 (j:=2) (v:=vN y) rfl,y,0,rfl,rfl,_,rfl,?_⟩
  refine F7 (fun hc=>?_) (fun hc=>?_)
  ·exact ⟨(by show 1<=sizeLine; decide),q0 (Zj_ hc)⟩
  obtain ⟨h12,qe⟩:=q1 fun z=>hc (Zr_ z)
  refine ⟨_,rfl,d,CD,dx,_,_,rfl,hd,T.cl,T.nR,rfl,rl,_,rfl,.inl (SqL.of hrl),xs.length,12,rfl,rfl,_,rfl,?_⟩
  rw [Zr_ h12]
  exact L9 ⟨_,rfl,by decide,fun x=>⟨(by show 1<=sizeLine; decide),qe⟩⟩
noncomputable abbrev Ad:Stmt:=Au (top 81) 3
theorem scDDrop:FnScope ["self","word","numbers","at"] ["self","word"] (B6 Ad):=⟨rfl,rfl,rfl,by decide +kernel,rfl,by decide +kernel,by decide +kernel⟩
theorem Wv {f CD CNR:Addr} {fd:FuncData} (F:Fun K "drop" "Desk.drop" Ad f fd) (ONR:Exc K "NoRow" CNR) (T:DK K CD) (zlen:mg "len" = none) (zrange:mg "range" = none) (zstr:mg "str" = none):FnOk P w K mg base (CX1 P w) 1 f fd ["self","word"] (Ri CD CNR):=by
 refine F.ok1 scDDrop (fun vs H Q E h=>?_) (fun cdv A outer s H vs Q E hr h=>?_)
 ·obtain ⟨d,np,rl,xs,z,rfl,_⟩:=h
  rfl
 ·obtain ⟨d,np,rl,xs,z,rfl,hD,hrl,l12,no,qe⟩:=h
  have nd:=scDDrop.nd
  obtain ⟨dx,hd⟩:=hD
  refine ⟨_,(A8 (Jx (i:=2) (xs:=["number"]) (cs ["self","word","numbers","at"] (B6 Ad) rfl rfl (by decide +kernel)) rfl nd rfl rfl (M6 rfl zrange (A0 (D7 (E4 (K:=K) rfl) (by rfl) zlen PySem.boot_len (A0 (Be (K:=K) rfl (pv 0) rfl) A7)) A7)) (fun _ _ _=>D3 (i:=0) (show (["number","self","word","numbers","at"]:List Str).Nodup by decide +kernel) rfl (Or.inl rfl)) (fun _ _ _=>K7) (fun _ _ _=>(I9 U5 (by rfl) zstr PyProof.Rows.boot_str (A0 (pv 0) A7)))) (A8 (E3 (C5 V0 (pv 1) (pv 2) (by rfl)) (B0 (P6 (EX:=E) ONR (by rfl) rfl (A0 B7 A7) (fun _ _ _ _ _ _ _ I hx hE=>N8 I hx hE))) C9) Bg)),?_⟩
  refine ⟨_,rfl,d,CD,dx,_,_,rfl,hd,T.cl,T.nR,rfl,rl,_,rfl,.inl (SqL.of hrl),_,rfl,(by omega),(by omega),T6 (k:=xs.length) (n:=1) (fun i acc H'=>H' = H/\acc=((List.range i).map O0).map V.str) (by omega) ⟨rfl,rfl⟩ (fun i acc H' hi h=>?_) (fun i acc H' hi h=>?_) (fun acc H' h=>?_)⟩
  ·obtain ⟨rfl,rfl⟩:=h
   rw [Θl,Θl,List.length_range]; exact Zd_ _
  ·obtain ⟨rfl,rfl⟩:=h
   refine ⟨rfl,_,rfl,_,rfl,?_,rfl,?_⟩
   ·show Nat.log2 i < 1920
    exact Nat.lt_of_le_of_lt (Nat.log2_le_self _) (by omega)
   ·rw [List.range_succ,Zw_,Zw_]; rfl
  obtain ⟨rfl,rfl⟩:=h
  intro l2 hl2
  have s2:=Same.new (o:=.lst (((List.range xs.length).map O0).map V.str)) hl2
  have h2:(upd H' l2 (.lst (((List.range xs.length).map O0).map V.str))) l2=some (.lst (((List.range xs.length).map O0).map V.str)):=A6
  generalize upd H' l2 (.lst (((List.range xs.length).map O0).map V.str))=H2 at s2 h2
  refine ⟨_,rfl,_,rfl,l2,_,rfl,.inl (SqL.of h2),rfl,Aq _,_,rfl,?_⟩
  rw [if_pos rfl,Av,decide_eq_false (fun hm=>?_)]
  ·exact L9 ⟨(by show 1<=sizeLine; decide),qe _ s2⟩
  obtain ⟨i,hi,e⟩:=Θn hm
  exact no i (List.mem_range.mp hi) e.symm
end
end Own
namespace Own
open PySem L2
section
variable {P:Program} {w:World} {K:Θf} {mg:Str->Option Value} {base:Heap}
seal PySem.wpAny
noncomputable abbrev O8:Stmt:=Au (top 28) 0
theorem scNInit:FnScope ["self","line"] ["self","line"] (B6 O8):=⟨rfl,rfl,rfl,by decide +kernel,rfl,by decide +kernel,by decide +kernel⟩
theorem Xd {f CNT CSE:Addr} {oc dV kV doc pm cdv ct:Value} {od an:Option Addr} {osl:Array (Option Value)} (lk:K.lookup f=some ⟨oc,od,.func (PySem.W.fnOf "__init__" "NoText.__init__" (K3 O8) (G0 O8) (B6 O8) dV kV doc pm an cdv ct),osl⟩) (hcd:PySem.W.codeIn K cdv "NoText.__init__" = true)
  (Z:ExcN K "NoText" CNT CSE f) (mSE:mg "SplitError" = some (.ref CSE)):FnOk P w K mg base CX0 1 f (PySem.W.fnOf "__init__" "NoText.__init__" (K3 O8) (G0 O8) (B6 O8) dV kV doc pm an cdv ct) ["self","line"] (Ko CNT):=by
 refine Qh lk hcd scNInit (fun vs H Q E h=>?_) fun A outer s H vs Q E hr h=>?_
 ·obtain ⟨ea,k,rfl,_⟩:=h
  rfl
 ·obtain ⟨ea,k,rfl,hk,he,q⟩:=h
  have nd:=scNInit.nd
  refine ⟨_,PSs.nox (A8 (Aa6 Z mSE (by rfl) (A0 (pv 0) (A0 (Xm (pv 1)) A7)))
   (B0 (Aa7 Z (pv 0) (pv 1) rfl))),?_⟩
  refine ⟨_,rfl,_,rfl,k,rfl,hk,fun x=>⟨ea,_,rfl,he,?_⟩⟩
  refine ⟨_,rfl,_,rfl,ea,k,rfl,rfl,he,fun D hD=>?_⟩
  have De:D≠ea:=(C4 he hD).symm
  refine q D _ (fun b o ne e=>?_) hD ?_ A6
  ·rw [C8 ne,C8 (C4 e hD)]; exact e
  ·rw [C8 De,A6]
noncomputable abbrev Yg:Stmt:=top 66
theorem scRead:FnScope ["text","lines","names","rules","number","rule"] ["text"] (B6 Yg):=⟨rfl,rfl,rfl,by decide +kernel,rfl,by decide +kernel,by decide +kernel⟩
theorem Aat {f fRN fRR fNI CNT CSE:Addr} {fd fdRN fdRR fdNI:FuncData} {tkMR:PySem.Tok} (F:Fun K "read" "read" Yg f fd) (GRN:FnOk P w K mg base CX0 3 fRN fdRN ["line"] Bq) (mRN:mg "read_names" = some (.ref fRN)) (kRN:Θk K fRN) (bRN:Binds K fdRN ["line"] []) (GRR:FnOk P w K mg base CX0 2 fRR fdRR ["names","line"] (Dl K)) (mRR:mg "read_rule" = some (.ref fRR)) (kRR:Θk K fRR) (bRR:Binds K fdRR ["names","line"] []) (Z:ExcN K "NoText" CNT CSE fNI) (GNI:FnOk P w K mg base CX0 1 fNI fdNI ["self","line"] (Ko CNT)) (bNI:Binds K fdNI ["self","line"] []) (mMR:mg "MOST_RULES" = some (.int 12 tkMR)) (zisinstance:mg "isinstance" = none) (zstr:mg "str" = none) (zrange:mg "range" = none) (zlen:mg "len" = none):FnOk P w K mg base (CX2 P w) 4 f fd ["text"] (Q7 K CNT):=by
 refine F.ok2 scRead (fun vs H Q E h=>?_) (fun cdv A outer s H vs Q E hr h=>?_)
 ·obtain ⟨v,rfl,_⟩:=h
  rfl
 ·obtain ⟨v,rfl,h⟩:=h
  have nd:=scRead.nd
  have hr2:Room 2 _:=hr.mono (by decide)
  have hr3:Room 3 _:=hr.mono (by decide)
  refine ⟨_,(A8 (E3 (W6 (O2 (D7 (Ek (K:=K) rfl) (by rfl) zisinstance PyProof.Rows.boot_isinstance (A0 (pv 0) (A0 (Dx (v:=.ty "str") rfl zstr PyProof.Rows.boot_str rfl) A7))))) (B0 (Ck (EX:=E) Z (by rfl) rfl GNI hr2 bNI (A0 A9 A7) (fun _ _ _ _ _ _ _ I n hx hD hE=>Ac I n hx hD hE))) C9)
   (A8 (C3 (i:=1) nd rfl (Or.inl rfl) (G5 PySem.F.plainAttrs_str PySem.F.slot_str_split PySem.F.type_str_split T9 (pv 0) (A0 B7 A7)))
   (A8 (C3 (i:=2) nd rfl (Or.inl rfl) (C0 GRN hr3 rfl mRN kRN bRN .nil D1 (A0 (C7 (C6 (K:=K) rfl) (pv 1) A9 (fun _ _=>rfl)) A7)))
   (A8 (E3 (C5 Ab (pv 2) K5 (D0 _)) (B0 (Ck (EX:=E) Z (by rfl) rfl GNI hr2 bNI (A0 A9 A7) (fun _ _ _ _ _ _ _ I n hx hD hE=>Ac I n hx hD hE))) C9)
   (A8 (C3 (i:=3) nd rfl (Or.inl rfl) (D8 A7))
   (A8 (L7 PassesOwn.leaving rfl (Tu rfl zrange (A0 A9 (A0 (D7 (E4 (K:=K) rfl) (by rfl) zlen PySem.boot_len (A0 (pv 1) A7)) A7))) (D3 (i:=4) nd rfl (Or.inl rfl)) (A8 (C3 (i:=5) nd rfl (Or.inl rfl) (C0 GRR hr2 rfl mRR kRR bRR .nil D1 (A0 (pv 2) (A0 (C7 (C6 (K:=K) rfl) (pv 1) (pv 4) (fun _ _=>rfl)) A7))))
   (A8 (E3 (PW.pt (Bh (C5 Ab (pv 5) K5 (D0 _)) (Cl (C5 Ci (pv 4) (L3 (v:=vN 12) (by rfl) mMR ⟨_,rfl⟩) (D0 _))))) (B0 (Ck (EX:=E) Z (by rfl) rfl GNI hr2 bNI (A0 (pv 4) A7) (fun _ _ _ _ _ _ _ I n hx hD hE=>Ac I n hx hD hE))) C9)
   (B0 (P0 (G5 PySem.F.plainAttrs_list PySem.F.slot_list_append PySem.F.type_list_append Q8 (pv 3) (A0 (pv 5) A7)))))))
   (B0 (C2 (G3 (A0 (pv 2) (A0 (pv 3) A7))))))))))),?_⟩
  rcases h with ⟨t,ht,hk,qe⟩ | ⟨z,l0,ls,rfl,lz,ez,l13,al,h⟩
  ·refine ⟨_,rfl,_,_,_,false,rfl,ht,hk,_,rfl,L9 ?_⟩
   exact ⟨0,rfl,by decide,fun D H' s' hD=>qe D H' s' hD⟩
  refine ⟨_,rfl,_,_,_,true,rfl,.str _,rfl,_,rfl,K9 ?_⟩
  refine ⟨_,rfl,rfl,z,nlS,rfl,rfl,rfl,by omega,by rw [ez,ZA]; omega,fun ll hll=>?_⟩
  rw [ez]
  have s1:=Same.new (o:=.lst ((l0 :: ls).map V.str)) hll
  have h1:(upd H ll (.lst ((l0 :: ls).map V.str))) ll=some (.lst ((l0 :: ls).map V.str)):=A6
  generalize upd H ll (.lst ((l0 :: ls).map V.str))=H1 at s1 h1
  have a0:=al l0 Θc
  refine ⟨_,rfl,ll,_,_,_,rfl,rfl,SqL.of h1,B9 (j:=0) (v:=V.str l0) rfl,l0,rfl,a0.1,a0.2,fun ws nl H2 es nb s2 hnl0 hnl=>?_,fun no H2 s2=>?nonm⟩
  case nonm=>
   refine ⟨_,rfl,rfl,_,rfl,L9 ?_⟩
   rcases h with ⟨_,qe⟩ | ⟨nms,os,e0,nb,_⟩
   ·exact ⟨0,rfl,by decide,fun D H' s' hD=>qe D H' ((s1.trans s2).trans s') hD⟩
   ·rw [no nms e0] at nb
    cases nb
  rcases h with ⟨no,_⟩ | ⟨nms,os,e0,_,NN,NNW,al2,h⟩
  ·rw [no ws es] at nb
   cases nb
  rw [e0] at es
  obtain rfl:nms=ws:=by injection es
  have h2:=s2 _ _ h1
  have nnl:H nl=none:=s1.none hnl0
  refine ⟨_,rfl,rfl,_,rfl,K9 ?_⟩
  refine ⟨(by show 0<=sizeLine; decide),fun rl hrl0=>?_⟩
  have s3:=Same.new (o:=.lst []) hrl0
  have hrl:(upd H2 rl (.lst [])) rl=some (.lst (([]:List Rl).map fun (r:Rl)=>V.ref r.r)):=A6
  have h3:=s3 _ _ h2
  have hnl3:=s3 _ _ hnl
  have nnr:nl≠rl:=C4 hnl hrl0
  have nlr:ll≠rl:=C4 h2 hrl0
  have s12:=s1.trans s2
  have nrl:H rl=none:=s12.none hrl0
  replace s3:=s12.trans s3
  generalize upd H2 rl (.lst [])=H3 at s3 hrl h3 hnl3
  have lm:((l0 :: ls).map V.str).length=ls.length + 1:=by rw [Θl,ZA]
  have lo:=al2.len
  refine ⟨_,rfl,ll,_,rfl,.inl (SqL.of h3),((1:Nat):Int),((((l0 :: ls).map V.str).length:Nat):Int),rfl,⟨by decide,by decide,by omega,by omega⟩,?_⟩
  rw [Ad3,lm]
  refine No (a:=1) (n:=ls.length + 1 - 1) (fun j σ H'=>(∃v4 v5,σ=[some (.str z),some (.ref ll),some (.ref nl),some (.ref rl),v4,v5])/\∃ks:List Rl,(ks.map Rl.d).map some=os.take j/\Same H H'/\H' ll=some (.lst ((l0 :: ls).map V.str))/\H' nl=some (.lst (nms.map V.str))/\H' rl=some (.lst (ks.map fun (r:Rl)=>V.ref r.r))/\RulesAt H' nms.length ks/\(∀r∈ks,r.r≠nl/\r.r≠rl)) ⟨⟨_,_,rfl⟩,[],rfl,s3,h3,hnl3,hrl,(fun r h=>absurd h Zi_),(fun r h=>absurd h Zi_)⟩ ?_ ?_
  ·rintro j σ H' hj ⟨⟨v4,v5,rfl⟩,ks,ek,s',hl',hn',hr',hR,hne⟩
   have hj':j < ls.length:=by omega
   have et:ls[j]? = some ls[j]:=Θh hj'
   have eo:os[j]? = some os[j]:=Θh (by omega)
   have hm:=Θe et
   generalize ls[j]=t at et hm
   generalize os[j]=o at eo
   have hL:Ur nms t o:=al2.get et eo
   have lks:ks.length=j:=by
    have:=congrArg List.length ek
    rw [Θl,Θl,ZB] at this
    omega
   have bef:∀i,i < j->os[i]?≠some none:=fun i hi e=>by
    have:=congrArg (·[i]?) ek
    simp only [List.getElem?_take,if_pos hi,Θg] at this
    rw [e] at this
    cases e5:ks[i]? with
    | none=>rw [e5] at this; cases this
    | some _=>rw [e5] at this; cases this
   refine ⟨_,rfl,_,rfl,_,rfl,ll,_,_,_,rfl,rfl,SqL.of hl',B9 (j:=1 + j) (v:=V.str t) (by rw [Nat.add_comm,List.map_cons,List.getElem?_cons_succ,Θg,et]; rfl),nl,nms,t,rfl,SqL.of hn',NN,NNW,(al t (Θd _ hm)).1,fun r l H4 hI ry es4 s4 hl0 hl=>?_,fun no H4 s4=>?norl⟩
   case norl=>
    refine ⟨_,rfl,rfl,_,rfl,L9 ?_⟩
    cases o with
    | some r=>exact absurd hL.2.2 (no r hL.1 hL.2.1)
    | none=>
     rcases h with ⟨i,e1,e2,i12,qe⟩ | ⟨rs,e1,_⟩
     ·have ij:i=j:=by
       rcases Nat.lt_trichotomy i j with lt | e | gt
       ·exact absurd e1 (bef i lt)
       ·exact e
       ·exact absurd eo (e2 j gt)
      subst ij
      refine ⟨_,rfl,((1 + i:Nat):Int),rfl,?_,fun D H6 s6 hD=>qe D H6 ((s'.trans s4).trans s6) ?_⟩
      ·show Nat.log2 (1 + i) < 1920
       exact Nat.lt_of_le_of_lt (Nat.log2_le_self _) (by omega)
      ·rw [Nat.add_comm]; exact hD
     ·rw [e1,Θg] at eo
      cases e5:rs[j]? with
      | none=>rw [e5] at eo; cases eo
      | some _=>rw [e5] at eo; cases eo
   cases o with
   | none=>exact absurd es4 (hL r hI ry)
   | some r'=>
    obtain rfl:r=r':=Ua NN NNW hI hL.1 (es4.symm.trans hL.2.2)
    have j12:j < 12:=by
     rcases h with ⟨i,e1,e2,i12,_⟩ | ⟨rs,e1,l12,_⟩
     ·rcases Nat.lt_trichotomy i j with lt | e | gt
      ·exact absurd e1 (bef i lt)
      ·rw [e,eo] at e1; cases e1
      ·omega
     ·have:os.length=rs.length:=by rw [e1,Θl]
      omega
    have hr4:=s4 _ _ hr'
    refine ⟨_,rfl,rfl,_,rfl,K9 ?_⟩
    refine ⟨_,rfl,1 + j,12,rfl,rfl,_,rfl,?_⟩
    rw [decide_eq_false (p:=12 < 1 + j) (by omega)]
    refine K9 ?_
    refine ⟨_,rfl,.inl ⟨rfl,_,SqL.of hr4⟩,_,rfl,rl,_,_,rfl,rfl,hr4,D4 (by rw [Θl]; omega),?_⟩
    have n1:l≠nl:=(C4 hn' hl0).symm
    have n2:l≠rl:=(C4 hr' hl0).symm
    refine ⟨⟨_,_,rfl⟩,ks++[⟨l,r.1,r.2.1,r.2.2⟩],?_,(s'.trans s4).over nrl,?_,?_,?_,fun k hk=>?_,fun k hk=>?_⟩
    ·rw [Zw_,Zw_,ek,List.take_succ,eo]; rfl
    ·rw [C8 nlr]; exact s4 _ _ hl'
    ·rw [C8 nnr]; exact s4 _ _ hn'
    ·rw [A6,Zw_]; rfl
    ·rcases Θa hk with hk | hk
     ·refine ⟨?_,(hR k hk).2⟩
      show upd H4 rl _ k.r=_
      rw [C8 (hne k hk).2]
      exact s4 _ _ (hR k hk).1
     ·rw [Θs hk]
      refine ⟨?_,hI⟩
      show upd H4 rl _ l=_
      rw [C8 n2]
      exact hl
    ·rcases Θa hk with hk | hk
     ·exact hne k hk
     ·rw [Θs hk]; exact ⟨n1,n2⟩
  ·rintro σ H' ⟨⟨v4,v5,rfl⟩,ks,ek,s',hl',hn',hr',hR,hne⟩
   rw [Nat.add_sub_cancel,List.take_of_length_le (by omega)] at ek
   rcases h with ⟨i,e1,_⟩ | ⟨rs,e1,l12,q⟩
   ·rw [<-ek,Θg] at e1
    cases e5:(ks.map Rl.d)[i]? with
    | none=>rw [e5] at e1; cases e1
    | some _=>rw [e5] at e1; cases e1
   ·have ek':ks.map Rl.d=rs:=List.map_inj_right (fun a b e=>Θo e) |>.mp (ek.trans e1)
    refine ⟨_,rfl,_,rfl,(by show 2<=sizeLine; decide),fun t ht=>?_⟩
    have s5:=Same.new (o:=.tup [V.ref nl,V.ref rl]) ht
    exact q t nl rl ks _ (s'.trans s5) nnl nrl nnr ek' (hR.same s5) A6 (s5 _ _ hn') (s5 _ _ hr') hne
end
end Own
namespace Own
open PySem L2
section
variable {P:Program} {w:World} {K:Θf} {mg:Str->Option Value} {base:Heap}
seal PySem.wpAny
noncomputable abbrev Cm:Stmt:=Au (top 81) 0
theorem scDInit:FnScope ["self","text","told"] ["self","text"] (B6 Cm):=⟨rfl,rfl,rfl,by decide +kernel,rfl,by decide +kernel,by decide +kernel⟩
theorem Ww {f fRE CD CNT:Addr} {fd fdRE:FuncData} (F:Fun K "__init__" "Desk.__init__" Cm f fd) (GRE:FnOk P w K mg base (CX2 P w) 4 fRE fdRE ["text"] (Q7 K CNT)) (mRE:mg "read" = some (.ref fRE)) (kRE:Θk K fRE) (bRE:Binds K fdRE ["text"] []) (T:DK K CD):FnOk P w K mg base (CX2 P w) 5 f fd ["self","text"] (Fw K CD CNT):=by
 refine F.ok2 scDInit (fun vs H Q E h=>?_) (fun cdv A outer s H vs Q E hr h=>?_)
 ·obtain ⟨d,dx,v,rfl,_⟩:=h
  rfl
 ·obtain ⟨d,dx,v,rfl,h⟩:=h
  have nd:=scDInit.nd
  have hr4:Room 4 _:=hr.mono (by decide)
  refine ⟨_,(A8 (C3 (i:=2) nd rfl (Or.inl rfl) (C0 GRE hr4 rfl mRE kRE bRE .nil (Aeu fun _ _ _ z=>z) (A0 (pv 1) A7)))
   (A8 (Xs (pv 0) (C7 (D5 (K:=K) rfl) (pv 2) A9 (fun _ _=>rfl)) rfl)
   (B0 (Xs (pv 0) (C7 (D5 (K:=K) rfl) (pv 2) A9 (fun _ _=>rfl)) rfl)))),?_⟩
  refine ⟨_,rfl,?_⟩
  unfold Abn
  refine Tz h fun u H1 h1=>?_
  obtain ⟨t,nl,rl,rfl,ht,hd1,q⟩:=h1
  have td:t≠d:=fun e=>by rw [e,hd1] at ht; cases ht
  refine ⟨_,rfl,t,_,_,_,rfl,rfl,SqT.of ht,B9 (j:=0) (v:=.ref nl) rfl,_,rfl,d,CD,dx,[],rfl,hd1,T.cl,T.nN,by decide,?_⟩
  have ht2:(upd H1 d (.ins CD dx (W7 "names" (.ref nl) []))) t=_:=(C8 td).trans ht
  refine ⟨_,rfl,t,_,_,_,rfl,rfl,SqT.of ht2,B9 (j:=1) (v:=.ref rl) rfl,_,rfl,d,CD,dx,_,rfl,A6,T.cl,T.nR,(by show 1 < 1000; decide),?_⟩
  refine q _ (fun b o e hb=>?_) ⟨dx,A6⟩
  rw [C8 hb,C8 hb]
  exact e
end
end Own
namespace Own
open PySem L2
section
variable {P:Program} {w:World} {K:Θf} {mg:Str->Option Value} {base:Heap}
seal PySem.wpAny
noncomputable abbrev Ox:Stmt:=top 96
theorem scKinds:FnScope ["_law_error","_law_kinds_here"] ["_law_error"] (B6 Ox):=⟨rfl,rfl,rfl,by decide +kernel,rfl,by decide +kernel,by decide +kernel⟩
theorem Wy {f CTX CZE:Addr} {ck:Kd->Addr} {fd:FuncData} (F:Fun K "_law_kinds" "_law_kinds" Ox f fd) (mKrow:mg "NoRow" = some (.ref (ck .row))) (mKset:mg "NoSet" = some (.ref (ck .set))) (mKcut:mg "NoCut" = some (.ref (ck .cut))) (mKmany:mg "TooMany" = some (.ref (ck .many))) (mTX:mg "NoText" = some (.ref CTX)) (X4:Ex4 K ck CTX CZE) (zisinstance:mg "isinstance" = none) (zint:mg "int" = none):FnOkH P w K mg base 1 f fd ["_law_error"] (Rk ck):=by
 refine F.okH scKinds (fun vs H Q E h=>?_) (fun cdv A outer s H vs Q E hr h=>?_)
 ·obtain ⟨ea,k,rfl,_⟩:=h
  rfl
 ·obtain ⟨ea,k,rfl,he,q⟩:=h
  have nd:=scKinds.nd
  have ss:Same H H:=Same.refl _
  refine ⟨_,(A8 (C3 (i:=1) nd rfl (Or.inl rfl) (B8 F2 (B8 Cj (D8 (A0 B7 A7)) (I9 S8 (by rfl) zint PyProof.Rows.boot_int (A0 (D7 (S9 (K:=K) rfl) (by rfl) zisinstance PyProof.Rows.boot_isinstance (A0 (pv 0) (A0 (L3 (v:=.ref (ck .row)) (by rfl) mKrow rfl) A7))) A7))) (B8 Cj (D8 (A0 B7 A7)) (I9 S8 (by rfl) zint PyProof.Rows.boot_int (A0 (D7 (S9 (K:=K) rfl) (by rfl) zisinstance PyProof.Rows.boot_isinstance (A0 (pv 0) (A0 (L3 (v:=.ref (ck .set)) (by rfl) mKset rfl) A7))) A7)))))
   (A8 (C3 (i:=1) nd rfl (Or.inl rfl) (B8 F2 (B8 F2 (pv 1) (B8 Cj (D8 (A0 B7 A7)) (I9 S8 (by rfl) zint PyProof.Rows.boot_int (A0 (D7 (S9 (K:=K) rfl) (by rfl) zisinstance PyProof.Rows.boot_isinstance (A0 (pv 0) (A0 (L3 (v:=.ref (ck .cut)) (by rfl) mKcut rfl) A7))) A7)))) (B8 Cj (D8 (A0 B7 A7)) (I9 S8 (by rfl) zint PyProof.Rows.boot_int (A0 (D7 (S9 (K:=K) rfl) (by rfl) zisinstance PyProof.Rows.boot_isinstance (A0 (pv 0) (A0 (L3 (v:=.ref (ck .many)) (by rfl) mKmany rfl) A7))) A7)))))
   (B0 (C2 (B8 F2 (pv 1) (B8 Cj (D8 (A0 B7 A7)) (I9 S8 (by rfl) zint PyProof.Rows.boot_int (A0 (D7 (S9 (K:=K) rfl) (by rfl) zisinstance PyProof.Rows.boot_isinstance (A0 (pv 0) (A0 (L3 (v:=.ref CTX) (by rfl) mTX rfl) A7))) A7)))))))),?_⟩
  refine ⟨(by show 1<=sizeLine; decide),fun l1 hl1=>?_⟩
  generalize eo:(.lst [V.str (Str.ofString "row")]:HO)=ob
  have na1:=Same.new (o:=ob) hl1
  have ga1:(upd H l1 ob) l1=some ob:=A6
  replace he:=na1 _ _ he
  replace ss:=ss.trans na1
  generalize upd H l1 ob=A1 at ss ga1 he
  clear na1
  subst eo
  refine ⟨_,rfl,ea,ck k,_,decide (k = .row),rfl,he,X4.i k,(fun u hu=>by cases hu; exact X4.o k .row),.inr ⟨_,rfl,l1,_,_,rfl,rfl,ga1,(b01 _).1,(b01 _).2.1,(b01 _).2.2,fun p1 hp1=>?_⟩⟩
  rw [Mj]
  generalize eo:(.lst (N1 (decide (k = .row)) (Str.ofString "row")):HO)=ob
  have nb1:=Same.new (o:=ob) hp1
  have hb1:(upd A1 p1 ob) p1=some ob:=A6
  replace he:=nb1 _ _ he
  replace ss:=ss.trans nb1
  generalize upd A1 p1 ob=B1 at ss hb1 he
  clear nb1
  subst eo
  refine ⟨(by show 1<=sizeLine; decide),fun l2 hl2=>?_⟩
  generalize eo:(.lst [V.str (Str.ofString "set")]:HO)=ob
  have na2:=Same.new (o:=ob) hl2
  have ga2:(upd B1 l2 ob) l2=some ob:=A6
  replace he:=na2 _ _ he
  replace hb1:=na2 _ _ hb1
  replace ss:=ss.trans na2
  generalize upd B1 l2 ob=A2 at ss ga2 he hb1
  clear na2
  subst eo
  refine ⟨_,rfl,ea,ck k,_,decide (k = .set),rfl,he,X4.i k,(fun u hu=>by cases hu; exact X4.o k .set),.inr ⟨_,rfl,l2,_,_,rfl,rfl,ga2,(b01 _).1,(b01 _).2.1,(b01 _).2.2,fun p2 hp2=>?_⟩⟩
  rw [Mj]
  generalize eo:(.lst (N1 (decide (k = .set)) (Str.ofString "set")):HO)=ob
  have nb2:=Same.new (o:=ob) hp2
  have hb2:(upd A2 p2 ob) p2=some ob:=A6
  replace he:=nb2 _ _ he
  replace hb1:=nb2 _ _ hb1
  replace ss:=ss.trans nb2
  generalize upd A2 p2 ob=B2 at ss hb2 he hb1
  clear nb2
  subst eo
  refine ⟨p1,p2,_,_,rfl,rfl,hb1,hb2,Nat.le_of_lt (D4 (by (try simp only [List.length_append]); have b0:=F8 (decide (k = .row)) (Str.ofString "row"); have b1:=F8 (decide (k = .set)) (Str.ofString "set"); have b2:=F8 (decide (k = .cut)) (Str.ofString "cut"); have b3:=F8 (decide (k = .many)) (Str.ofString "many"); have b4:=F8 (false) (Str.ofString "text"); omega)),fun qa hqa=>?_⟩
  generalize eo:(.lst (N1 (decide (k = .row)) (Str.ofString "row")++N1 (decide (k = .set)) (Str.ofString "set")):HO)=ob
  have nca:=Same.new (o:=ob) hqa
  have hca:(upd B2 qa ob) qa=some ob:=A6
  replace he:=nca _ _ he
  replace ss:=ss.trans nca
  generalize upd B2 qa ob=Ca at ss hca he
  clear nca
  subst eo
  refine ⟨_,rfl,(by show 1<=sizeLine; decide),fun l3 hl3=>?_⟩
  generalize eo:(.lst [V.str (Str.ofString "cut")]:HO)=ob
  have na3:=Same.new (o:=ob) hl3
  have ga3:(upd Ca l3 ob) l3=some ob:=A6
  replace he:=na3 _ _ he
  replace hca:=na3 _ _ hca
  replace ss:=ss.trans na3
  generalize upd Ca l3 ob=A3 at ss ga3 he hca
  clear na3
  subst eo
  refine ⟨_,rfl,ea,ck k,_,decide (k = .cut),rfl,he,X4.i k,(fun u hu=>by cases hu; exact X4.o k .cut),.inr ⟨_,rfl,l3,_,_,rfl,rfl,ga3,(b01 _).1,(b01 _).2.1,(b01 _).2.2,fun p3 hp3=>?_⟩⟩
  rw [Mj]
  generalize eo:(.lst (N1 (decide (k = .cut)) (Str.ofString "cut")):HO)=ob
  have nb3:=Same.new (o:=ob) hp3
  have hb3:(upd A3 p3 ob) p3=some ob:=A6
  replace he:=nb3 _ _ he
  replace hca:=nb3 _ _ hca
  replace ss:=ss.trans nb3
  generalize upd A3 p3 ob=B3 at ss hb3 he hca
  clear nb3
  subst eo
  refine ⟨qa,p3,_,_,rfl,rfl,hca,hb3,Nat.le_of_lt (D4 (by (try simp only [List.length_append]); have b0:=F8 (decide (k = .row)) (Str.ofString "row"); have b1:=F8 (decide (k = .set)) (Str.ofString "set"); have b2:=F8 (decide (k = .cut)) (Str.ofString "cut"); have b3:=F8 (decide (k = .many)) (Str.ofString "many"); have b4:=F8 (false) (Str.ofString "text"); omega)),fun qb hqb=>?_⟩
  generalize eo:(.lst ((N1 (decide (k = .row)) (Str.ofString "row")++N1 (decide (k = .set)) (Str.ofString "set"))++N1 (decide (k = .cut)) (Str.ofString "cut")):HO)=ob
  have ncb:=Same.new (o:=ob) hqb
  have hcb:(upd B3 qb ob) qb=some ob:=A6
  replace he:=ncb _ _ he
  replace ss:=ss.trans ncb
  generalize upd B3 qb ob=Cb at ss hcb he
  clear ncb
  subst eo
  refine ⟨(by show 1<=sizeLine; decide),fun l4 hl4=>?_⟩
  generalize eo:(.lst [V.str (Str.ofString "many")]:HO)=ob
  have na4:=Same.new (o:=ob) hl4
  have ga4:(upd Cb l4 ob) l4=some ob:=A6
  replace he:=na4 _ _ he
  replace hcb:=na4 _ _ hcb
  replace ss:=ss.trans na4
  generalize upd Cb l4 ob=A4 at ss ga4 he hcb
  clear na4
  subst eo
  refine ⟨_,rfl,ea,ck k,_,decide (k = .many),rfl,he,X4.i k,(fun u hu=>by cases hu; exact X4.o k .many),.inr ⟨_,rfl,l4,_,_,rfl,rfl,ga4,(b01 _).1,(b01 _).2.1,(b01 _).2.2,fun p4 hp4=>?_⟩⟩
  rw [Mj]
  generalize eo:(.lst (N1 (decide (k = .many)) (Str.ofString "many")):HO)=ob
  have nb4:=Same.new (o:=ob) hp4
  have hb4:(upd A4 p4 ob) p4=some ob:=A6
  replace he:=nb4 _ _ he
  replace hcb:=nb4 _ _ hcb
  replace ss:=ss.trans nb4
  generalize upd A4 p4 ob=B4 at ss hb4 he hcb
  clear nb4
  subst eo
  refine ⟨qb,p4,_,_,rfl,rfl,hcb,hb4,Nat.le_of_lt (D4 (by (try simp only [List.length_append]); have b0:=F8 (decide (k = .row)) (Str.ofString "row"); have b1:=F8 (decide (k = .set)) (Str.ofString "set"); have b2:=F8 (decide (k = .cut)) (Str.ofString "cut"); have b3:=F8 (decide (k = .many)) (Str.ofString "many"); have b4:=F8 (false) (Str.ofString "text"); omega)),fun qc hqc=>?_⟩
  generalize eo:(.lst (((N1 (decide (k = .row)) (Str.ofString "row")++N1 (decide (k = .set)) (Str.ofString "set"))++N1 (decide (k = .cut)) (Str.ofString "cut"))++N1 (decide (k = .many)) (Str.ofString "many")):HO)=ob
  have ncc:=Same.new (o:=ob) hqc
  have hcc:(upd B4 qc ob) qc=some ob:=A6
  replace he:=ncc _ _ he
  replace ss:=ss.trans ncc
  generalize upd B4 qc ob=Cc at ss hcc he
  clear ncc
  subst eo
  refine ⟨_,rfl,(by show 1<=sizeLine; decide),fun l5 hl5=>?_⟩
  generalize eo:(.lst [V.str (Str.ofString "text")]:HO)=ob
  have na5:=Same.new (o:=ob) hl5
  have ga5:(upd Cc l5 ob) l5=some ob:=A6
  replace he:=na5 _ _ he
  replace hcc:=na5 _ _ hcc
  replace ss:=ss.trans na5
  generalize upd Cc l5 ob=A5 at ss ga5 he hcc
  clear na5
  subst eo
  refine ⟨_,rfl,ea,ck k,_,false,rfl,he,X4.i k,(fun u hu=>by cases hu; exact X4.t k),.inr ⟨_,rfl,l5,_,_,rfl,rfl,ga5,(b01 _).1,(b01 _).2.1,(b01 _).2.2,fun p5 hp5=>?_⟩⟩
  rw [Mj]
  generalize eo:(.lst (N1 (false) (Str.ofString "text")):HO)=ob
  have nb5:=Same.new (o:=ob) hp5
  have hb5:(upd A5 p5 ob) p5=some ob:=A6
  replace he:=nb5 _ _ he
  replace hcc:=nb5 _ _ hcc
  replace ss:=ss.trans nb5
  generalize upd A5 p5 ob=B5 at ss hb5 he hcc
  clear nb5
  subst eo
  refine ⟨qc,p5,_,_,rfl,rfl,hcc,hb5,Nat.le_of_lt (D4 (by (try simp only [List.length_append]); have b0:=F8 (decide (k = .row)) (Str.ofString "row"); have b1:=F8 (decide (k = .set)) (Str.ofString "set"); have b2:=F8 (decide (k = .cut)) (Str.ofString "cut"); have b3:=F8 (decide (k = .many)) (Str.ofString "many"); have b4:=F8 (false) (Str.ofString "text"); omega)),fun qd hqd=>?_⟩
  exact q qd _ (ss.trans (Same.new hqd)) (by rw [A6,Vx])
noncomputable abbrev Fo:Stmt:=top 97
theorem scRefused:FnScope ["_law_desk","_law_row_here","_law_due","_law_marks","e"] ["_law_desk","_law_row_here","_law_due"] (B6 Fo):=⟨rfl,rfl,rfl,by decide +kernel,rfl,by decide +kernel,by decide +kernel⟩
theorem Oh {f fSY fKI CD CTX CZE:Addr} {ck:Kd->Addr} {fd fdSY fdKI:FuncData} (F:Fun K "_law_refused" "_law_refused" Fo f fd) (T:DK K CD) (MS:Meth K CD "say" fSY) (GSY:FnOk P w K mg base (CX1 P w) 10 fSY fdSY ["self","row"] (Cr K CD (ck .row) (ck .set) (ck .cut) (ck .many))) (bSY:Binds K fdSY ["self","row"] []) (GKI:FnOkH P w K mg base 1 fKI fdKI ["_law_error"] (Rk ck)) (mKI:mg "_law_kinds" = some (.ref fKI)) (kKI:Θk K fKI) (bKI:Binds K fdKI ["_law_error"] []) (X4:Ex4 K ck CTX CZE) (mZE:mg "SplitError" = some (.ref CZE)) (zisinstance:mg "isinstance" = none) (zVE:mg "ValueError" = none):FnOk P w K mg base CX0 11 f fd ["_law_desk","_law_row_here","_law_due"] (Yy K CD):=by
 refine F.ok scRefused (fun vs H Q E h=>?_) (fun cdv A outer s H vs Q E hr h=>?_)
 ·obtain ⟨d,np,rl,nms,rs,v,k,rfl,_⟩:=h
  rfl
 ·obtain ⟨d,np,rl,nms,rs,v,k,rfl,hD,hn,NN,hrl,hR,l12,hv,q⟩:=h
  have nd:=scRefused.nd
  have hr1:Room 1 _:=hr.mono (by decide)
  have hrS:Room 10 _:=hr.mono (by decide)
  refine ⟨_,(A8 (C3 (i:=3) nd rfl (Or.inl rfl) (D8 A7))
   (A8 (Tw (l:=4) (Xt (fun _=>pv 0) T.cl MS GSY hrS bSY (fun _=>(A0 (pv 1) A7))) (fun _=>(B0 (C3 (i:=3) nd rfl (Or.inl rfl) (D8 (A0 (D7 (S9 (K:=K) rfl) (by rfl) zisinstance PyProof.Rows.boot_isinstance (A0 (pv 4) (A0 (Dx (v:=.ty "ValueError") (by rfl) zVE PyProof.Rows.Boot.«ValueError» rfl) A7))) (A0 (N4 (Jr (K:=K) rfl hr.units) (Xl GKI (hr1.h _) (by rfl) mKI kKI bKI (A0 (pv 4) A7)) (D8 (A0 (pv 2) A7)) (D0 _)) A7)))))) (by rfl) mZE rfl rfl nd rfl rfl)
   (B0 (C2 (N4 (Jr (K:=K) rfl hr.units) (pv 3) (D8 (A0 W4 (A0 W4 A7))) (D0 _)))))),?_⟩
  refine ⟨(by show 0<=sizeLine; decide),fun l0 hl0=>?_⟩
  have s1:=Same.new (o:=.lst []) hl0
  generalize upd H l0 (.lst [])=H1 at s1
  obtain ⟨dx,hd⟩:=hD
  refine ⟨_,rfl,d,dx,_,rfl,s1 _ _ hd,rfl,_,rfl,?_⟩
  unfold Abn
  refine (hv.keep s1).say ⟨dx,s1 _ _ hd⟩ (s1 _ _ hn) NN (s1 _ _ hrl) (hR.same s1) l12 fun H2 s2=>⟨ck k,rfl,X4.x k,fun ea hea=>?_⟩
  have s3:=(s1.trans s2).trans (Same.new (o:=Je ea (ck k)) hea)
  have he:(upd H2 ea (Je ea (ck k))) ea=some (Je ea (ck k)):=A6
  generalize upd H2 ea (Je ea (ck k))=H3 at s3 he
  refine ⟨_,rfl,ea,ck k,_,true,rfl,he,X4.i k,(fun u hu=>by cases hu; exact X4.v k),_,rfl,ea,k,rfl,he,fun l4 H4 s4 hl4=>?_⟩
  refine ⟨_,rfl,(by show 1<=sizeLine; decide),fun l5 hl5=>?_⟩
  have s5:=Same.new (o:=.lst [V.str (kw k)]) hl5
  have h5:(upd H4 l5 (.lst [V.str (kw k)])) l5=some (.lst [V.str (kw k)]):=A6
  replace hl4:=s5 _ _ hl4
  replace s5:=(s3.trans s4).trans s5
  generalize upd H4 l5 (.lst [V.str (kw k)])=H5 at s5 h5 hl4
  have kc:∀x∈[kw k],∀c∈x.cps.toList,c < 256:=fun x hx=>by
   rw [List.mem_singleton] at hx
   subst hx
   cases k <;> decide
  refine ⟨.list ([kw k].map PyData.str),.list ([kw k].map PyData.str),.lst (SqL.of hl4) (Bt [kw k]),.lst (SqL.of h5) (Bt [kw k]),N9 kc,N9 kc,Z9 Fa _ _,?_⟩
  rw [if_neg Zf_,Cp Km,Zr_ rfl]
  refine ⟨(by show 2<=sizeLine; decide),fun l6 hl6=>?_⟩
  have s6:=Same.new (o:=.lst [V.bl true,V.bl true]) hl6
  have h6:(upd H5 l6 (.lst [V.bl true,V.bl true])) l6=some (.lst [V.bl true,V.bl true]):=A6
  replace s6:=s5.trans s6
  generalize upd H5 l6 (.lst [V.bl true,V.bl true])=H6 at s6 h6
  refine ⟨_,rfl,(by show 2<=sizeLine; decide),fun l7 hl7=>?_⟩
  have s7:=Same.new (o:=.lst [V.bl true,V.bl true]) hl7
  have h7:(upd H6 l7 (.lst [V.bl true,V.bl true])) l7=some (.lst [V.bl true,V.bl true]):=A6
  replace h6:=s7 _ _ h6
  replace s7:=s6.trans s7
  generalize upd H6 l7 (.lst [V.bl true,V.bl true])=H7 at s7 h7 h6
  refine ⟨.list [.bool true,.bool true],.list [.bool true,.bool true],.lst (SqL.of h6) (.cons (.bl true) (.cons (.bl true) .nil)),.lst (SqL.of h7) (.cons (.bl true) (.cons (.bl true) .nil)),rfl,rfl,?_,?_⟩
  ·decide
  ·exact q _ s7
end
end Own
namespace Own
open PySem L2
section
variable {P:Program} {w:World} {K:Θf} {mg:Str->Option Value} {base:Heap}
seal PySem.wpAny
noncomputable abbrev Kh:Stmt:=top 98
theorem scNoDesk:FnScope ["_law_names_here","_law_text_here","_law_cell","_law_lines","_law_at","_law_odd","_law_thing","_law_line_here","_law_told","e"] ["_law_names_here","_law_text_here","_law_cell"] (B6 Kh):=⟨rfl,rfl,rfl,by decide +kernel,rfl,by decide +kernel,by decide +kernel⟩
theorem Tl {f fDI CD CNT:Addr} {fd fdDI:FuncData} (F:Fun K "_law_no_desk" "_law_no_desk" Kh f fd) (T:DK K CD) (MD:Mk K CD fDI) (GDI:FnOk P w K mg base (CX2 P w) 5 fDI fdDI ["self","text"] (Fw K CD CNT)) (bDI:Binds K fdDI ["self","text"] []) (mDK:mg "Desk" = some (.ref CD)) (mTX:mg "NoText" = some (.ref CNT)) (xTX:PySem.W.exmOne K (.ref CNT) (.ref CNT)=some true) (GX:ExcG K CNT) (zlen:mg "len" = none):FnOk P w K mg base CX0 7 f fd ["_law_names_here","_law_text_here","_law_cell"] (Mu K):=by
 refine F.ok scNoDesk (fun vs H Q E h=>?_) (fun cdv A outer s H vs Q E hr h=>?_)
 ·obtain ⟨np,nms,ds,c,rfl,_⟩:=h
  rfl
 ·obtain ⟨np,nms,ds,c,rfl,hn,NN,NNW,hI,l12,q⟩:=h
  have nd:=scNoDesk.nd
  have hr6:Room 6 _:=hr.mono (by decide)
  have hI1:∀r∈ds,InR nms r:=fun r hr'=>(hI r hr').1
  have tl0:=Mz NN hI1 l12
  refine ⟨_,(A8 (C3 (i:=3) nd rfl (Or.inl rfl) (G5 PySem.F.plainAttrs_str PySem.F.slot_str_split PySem.F.type_str_split T9 (pv 1) (A0 B7 A7)))
   (A8 (C3 (i:=4) nd rfl (Or.inl rfl) (B8 D9 (pv 2) (D7 (E4 (K:=K) rfl) (by rfl) zlen PySem.boot_len (A0 (pv 3) A7))))
   (A8 (C3 (i:=5) nd rfl (Or.inl rfl) (C7 (C6 (K:=K) rfl) (D8 (A0 B7 (A0 B7 (A0 (B8 C1 B7 (C7 (C6 (K:=K) rfl) (pv 0) A9 (fun _ _=>rfl))) (A0 B7 (A0 (B8 C1 (C7 (C6 (K:=K) rfl) (pv 3) (pv 4) (fun _ _=>rfl)) B7) (A0 (B8 C1 (C7 (C6 (K:=K) rfl) (pv 3) (pv 4) (fun _ _=>rfl)) B7) A7))))))) (B8 D9 (B8 E5 (pv 2) A9) A9) (fun _ _=>rfl)))
   (A8 (C3 (i:=6) nd rfl (Or.inl rfl) (C7 (C6 (K:=K) rfl) (D8 (A0 (G5 PySem.F.plainAttrs_str PySem.F.slot_str_join PySem.F.type_str_join L1 B7 (A0 (B8 F2 (B8 F2 (I0 N0 (pv 3) M7 (K6 (pv 4))) (D8 (A0 (pv 5) A7))) (I0 N0 (pv 3) (K6 (B8 G8 (pv 4) A9)) M7)) A7)) (A0 K5 (A0 (B8 C1 (pv 1) B7) (A0 (D8 (A0 (pv 1) A7)) A7))))) (B8 D9 (B8 E5 (pv 2) A9) A9) (fun _ _=>rfl)))
   (A8 (C3 (i:=7) nd rfl (Or.inl rfl) (C7 (C6 (K:=K) rfl) (D8 (A0 (pv 4) (A0 A9 (A0 (D7 (E4 (K:=K) rfl) (by rfl) zlen PySem.boot_len (A0 (pv 3) A7)) (A0 A9 A7))))) (B8 D9 (B8 E5 (pv 2) A9) A9) (fun _ _=>rfl)))
   (A8 (C3 (i:=8) nd rfl (Or.inl rfl) K5)
   (A8 (Aa8 (l:=9) (fun _ _=>B0 (P0 (Xo MD GDI hr6 (by rfl) mDK bDI (A0 (pv 6) A7)))) (fun _=>(B0 (C3 (i:=8) nd rfl (Or.inl rfl) (Xn (K:=K) rfl (pv 9))))) (by rfl) mTX rfl rfl nd rfl rfl)
   (B0 (C2 (N4 N6 (pv 8) (pv 7) (D0 _))))))))))),?_⟩
  have ss:Same H H:=Same.refl _
  refine ⟨_,rfl,rfl,O4 nms ds,nlS,rfl,rfl,rfl,by omega,by rw [Ge NN hI1,M0]; omega,fun ll hll=>?_⟩
  rw [Ge NN hI1]
  generalize eo:(.lst ((F4 nms ds).map V.str):HO)=ob
  have n1:=Same.new (o:=ob) hll
  have g1:(upd H ll ob) ll=some ob:=A6
  replace ss:=ss.trans n1
  generalize upd H ll ob=H1 at ss g1
  clear n1
  subst eo
  have lm:((F4 nms ds).map V.str).length=ds.length + 1:=by rw [Θl,M0]
  refine ⟨_,rfl,_,rfl,ll,_,rfl,.inl (SqL.of g1),c,((F4 nms ds).map V.str).length,rfl,rfl,(by omega),?_⟩
  have ha:c % ((F4 nms ds).map V.str).length < (F4 nms ds).length:=by
   rw [Θl]
   exact Nat.mod_lt _ (by rw [M0]; omega)
  dsimp (config:={ proj:=false,iota:=false }) only
  generalize c % ((F4 nms ds).map V.str).length=a at ha
  have ela:=Θh ha
  generalize (F4 nms ds)[a]=l at ela
  have lA:((F4 nms ds).take a).length=a:=by rw [ZB]; omega
  have el:=Qs ela
  generalize (F4 nms ds).take a=A at el lA
  generalize (F4 nms ds).drop (a + 1)=B at el
  subst lA
  have hl:=O1 NN hI1 l (by rw [el]; exact Zh_ _ Θc)
  have n0m:nms.getD 0 noS∈nms:=(G1 (show 0 < nms.length from NN.l1)).1
  have n0l:=NN.len _ n0m
  have sz:=sizeLine_eq
  have ega:(nms.map V.str)[0]? = some (V.str (nms.getD 0 noS)):=by
   rw [Θg,Zu_,Θh (show 0 < nms.length from NN.l1)]
   rfl
  have ela':((F4 nms ds).map V.str)[A.length]? = some (V.str l):=by rw [Θg,ela]; rfl
  refine ⟨_,rfl,np,_,_,_,rfl,rfl,ss.seq hn,B9 (j:=0) (v:=V.str (nms.getD 0 noS)) ega,_,nms.getD 0 noS,rfl,rfl,(by show 6 + (nms.getD 0 noS).length<=sizeLine; omega),_,rfl,_,rfl,ll,_,_,_,rfl,rfl,SqL.of g1,B9 (j:=A.length) (v:=V.str l) ela',l,_,rfl,rfl,(by show l.length + 1<=sizeLine; omega),_,rfl,_,rfl,ll,_,_,_,rfl,rfl,SqL.of g1,B9 (j:=A.length) (v:=V.str l) ela',l,_,rfl,rfl,(by show l.length + 2<=sizeLine; omega),(by show 6<=sizeLine; decide),fun lo hlo=>?_⟩
  generalize eo:(.lst [V.str (Str.ofString ""),V.str (Str.ofString "settle"),V.str (Str.ofString "deals "++nms.getD 0 noS),V.str (Str.ofString "columns"),V.str (l++Str.ofString " "),V.str (l++Str.ofString " A")]:HO)=ob
  have n2:=Same.new (o:=ob) hlo
  have g2:(upd H1 lo ob) lo=some ob:=A6
  replace g1:=n2 _ _ g1
  replace ss:=ss.trans n2
  generalize upd H1 lo ob=H2 at ss g2 g1
  clear n2
  subst eo
  have ho:(Fc (nms.getD 0 noS) l)[c / 16 % 6]? = some ((Fc (nms.getD 0 noS) l)[c / 16 % 6]'(Nat.mod_lt _ (by decide))):=Θh _
  have hom:=Θe ho
  generalize (Fc (nms.getD 0 noS) l)[c / 16 % 6]'(Nat.mod_lt _ (by decide))=o at ho hom
  have eo:((Fc (nms.getD 0 noS) l).map V.str)[c / 16 % 6]? = some (V.str o):=by rw [Θg,ho]; rfl
  have po:=Oc (We (NN.low _ n0m) n0l) (W3 hl) o hom
  refine ⟨_,rfl,c,16,rfl,rfl,(by show 0 < 16/\16 < 1073741824; decide),c / 16,6,rfl,rfl,(by show 0 < 6; decide),lo,_,_,_,rfl,rfl,SqL.of g2,B9 (j:=c / 16 % 6) (v:=V.str o) eo,?_⟩
  have em:(F4 nms ds).map V.str=A.map V.str++V.str l :: B.map V.str:=by rw [el,Zw_]; rfl
  have mA:(A.map V.str).length=A.length:=Θl ..
  rw [em] at g1
  refine ⟨rfl,_,rfl,_,rfl,(A.length:Int),rfl,ll,_,rfl,SqL.of g1,fun p1 hp1=>?_⟩
  have c1:R8 (A.map V.str++V.str l :: B.map V.str) none (some (A.length:Int))=A.map V.str:=by
   have:=Vf (A:=A.map V.str) (B:=V.str l :: B.map V.str)
   rw [mA] at this
   exact this
  rw [c1]
  generalize eo:(.lst (A.map V.str):HO)=ob
  have n3:=Same.new (o:=ob) hp1
  have g3:(upd H2 p1 ob) p1=some ob:=A6
  replace g1:=n3 _ _ g1
  replace ss:=ss.trans n3
  generalize upd H2 p1 ob=H3 at ss g3 g1
  clear n3
  subst eo
  refine ⟨_,rfl,(by show 1<=sizeLine; decide),fun p2 hp2=>?_⟩
  generalize eo:(.lst [V.str o]:HO)=ob
  have n4:=Same.new (o:=ob) hp2
  have g4:(upd H3 p2 ob) p2=some ob:=A6
  replace g1:=n4 _ _ g1
  replace g3:=n4 _ _ g3
  replace ss:=ss.trans n4
  generalize upd H3 p2 ob=H4 at ss g4 g1 g3
  clear n4
  subst eo
  have lns:A.length + (B.length + 1)=ds.length + 1:=by
   have:=congrArg List.length el
   rw [M0,Zv_,ZA] at this
   omega
  refine ⟨p1,p2,_,_,rfl,rfl,g3,g4,Nat.le_of_lt (D4 (by rw [mA]; show _ + 1<=1000; omega)),fun p3 hp3=>?_⟩
  generalize eo:(.lst (A.map V.str++[V.str o]):HO)=ob
  have n5:=Same.new (o:=ob) hp3
  have g5:(upd H4 p3 ob) p3=some ob:=A6
  replace g1:=n5 _ _ g1
  replace ss:=ss.trans n5
  generalize upd H4 p3 ob=H5 at ss g5 g1
  clear n5
  subst eo
  refine ⟨_,rfl,_,rfl,A.length,1,rfl,rfl,((A.length + 1:Nat):Int),rfl,ll,_,rfl,SqL.of g1,fun p4 hp4=>?_⟩
  have c2:R8 (A.map V.str++V.str l :: B.map V.str) (some ((A.length + 1:Nat):Int)) none=B.map V.str:=by
   have:=Gv (A:=A.map V.str) (B:=B.map V.str) (w:=V.str l)
   rw [mA] at this
   exact this
  rw [c2]
  generalize eo:(.lst (B.map V.str):HO)=ob
  have n6:=Same.new (o:=ob) hp4
  have g6:(upd H5 p4 ob) p4=some ob:=A6
  replace g1:=n6 _ _ g1
  replace g5:=n6 _ _ g5
  replace ss:=ss.trans n6
  generalize upd H5 p4 ob=H6 at ss g6 g1 g5
  clear n6
  subst eo
  refine ⟨p3,p4,_,_,rfl,rfl,g5,g6,Nat.le_of_lt (D4 (by rw [Zv_,mA,Θl]; show _ + 1 + _<=1000; omega)),fun p5 hp5=>?_⟩
  generalize eo:(.lst (A.map V.str++[V.str o]++B.map V.str):HO)=ob
  have n7:=Same.new (o:=ob) hp5
  have g7:(upd H6 p5 ob) p5=some ob:=A6
  replace g1:=n7 _ _ g1
  replace ss:=ss.trans n7
  generalize upd H6 p5 ob=H7 at ss g7 g1
  clear n7
  subst eo
  have e7:A.map V.str++[V.str o]++B.map V.str=(A++[o]++B).map V.str:=by rw [Zw_,Zw_]; rfl
  rw [e7] at g7
  have hpl:∀x∈A++[o]++B,x.length<=200:=fun x hx=>by
   rcases Θa hx with hx | hx
   ·rcases Θa hx with hx | hx
    ·exact Zo_ (O1 NN hI1 x (by rw [el]; exact Zt_ _ hx)).2 (by decide)
    ·rw [Θs hx]; exact po.len
   ·exact Zo_ (O1 NN hI1 x (by rw [el]; exact Zh_ _ (Θd _ hx))).2 (by decide)
  refine ⟨nlS,p5,A++[o]++B,rfl,rfl,SqL.of g7,Lp (d:=200) (e:=1) hpl rfl (by rw [Zv_,Zv_]; show (_ + 1 + _) * 200 + 1 * (_ + 1 + _)<=100000; omega),?_⟩
  rw [L0]
  have tl:=Mz NN hI1 l12
  refine ⟨_,rfl,_,_,rfl,rfl,(by show (O4 nms ds).length + 1<=sizeLine; omega),_,rfl,(by show 1<=sizeLine; decide),fun lt hlt=>?_⟩
  generalize eo:(.lst [V.str (O4 nms ds)]:HO)=ob
  have n8:=Same.new (o:=ob) hlt
  have g8:(upd H7 lt ob) lt=some ob:=A6
  replace g1:=n8 _ _ g1
  replace ss:=ss.trans n8
  generalize upd H7 lt ob=H8 at ss g8 g1
  clear n8
  subst eo
  refine ⟨(by show 4<=sizeLine; decide),fun lp hlp=>?_⟩
  generalize eo:(.lst [V.str (Str.join nlS (A++[o]++B)),V.non,V.str (O4 nms ds++Str.ofString "\n"),V.ref lt]:HO)=ob
  have n9:=Same.new (o:=ob) hlp
  have g9:(upd H8 lp ob) lp=some ob:=A6
  replace g1:=n9 _ _ g1
  replace g8:=n9 _ _ g8
  replace ss:=ss.trans n9
  generalize upd H8 lp ob=H9 at ss g9 g1 g8
  clear n9
  subst eo
  have j4:c / 128 % 4 < 4:=Nat.mod_lt _ (by decide)
  obtain ⟨th,n,e1,e2,n13,rd⟩:=Na (K:=K) (CN:=CNT) (lt:=lt) NN NNW hI l12 el hom g8 j4
  refine ⟨_,rfl,c,128,rfl,rfl,(by show 0 < 128/\128 < 1073741824; decide),c / 128,4,rfl,rfl,(by show 0 < 4; decide),lp,_,_,_,rfl,rfl,SqL.of g9,B9 (j:=c / 128 % 4) (v:=th) e1,?_⟩
  have lm2:(A.map V.str++V.str l :: B.map V.str).length=(F4 nms ds).length:=by rw [<-em,Θl]
  refine ⟨_,rfl,_,rfl,ll,_,rfl,.inl (SqL.of g1),(by show 4<=sizeLine; decide),fun lq hlq=>?_⟩
  rw [lm2]
  have s8:=ss
  generalize eo:(.lst [vN A.length,V.int 0,V.int ((F4 nms ds).length:Int),V.int 0]:HO)=ob
  have na:=Same.new (o:=ob) hlq
  have ga:(upd H9 lq ob) lq=some ob:=A6
  replace g8:=na _ _ g8
  replace ss:=ss.trans na
  generalize upd H9 lq ob=Ha at ss ga g8
  clear na
  subst eo
  refine ⟨_,rfl,c,128,rfl,rfl,(by show 0 < 128/\128 < 1073741824; decide),c / 128,4,rfl,rfl,(by show 0 < 4; decide),lq,_,_,_,rfl,rfl,SqL.of ga,B9 (j:=c / 128 % 4) (v:=vN n) e2,?_⟩
  refine ⟨_,rfl,fun y dx hy hdx ne=>?_⟩
  have sy:Same Ha (upd (upd Ha dx (.own y)) y (.ins CD dx [])):=(Same.new hdx).trans (Same.new (by rw [C8 ne.symm]; exact hy))
  obtain ⟨th',n',f1,f2,_,rd'⟩:=Na (K:=K) (CN:=CNT) (lt:=lt) (H:=Ha) NN NNW hI l12 el hom g8 j4
  rw [e1] at f1
  rw [e2] at f2
  obtain rfl:=Θo f1
  have hn':n=n':=by
   have:=Θo f2
   injection this with this
   exact Int.ofNat.inj this
  subst hn'
  refine ⟨y,dx,th,rfl,rd' _ _ _ sy fun D H' s' hD=>⟨CNT,D,(n:Int),rfl,rfl,xTX,hD,fun ea hea=>?_⟩⟩
  have se:=Same.new (o:=Nn ea CNT D) hea
  refine ⟨_,rfl,ea,CNT,D,(n:Int),rfl,GX,A6,se _ _ hD,?_⟩
  refine ⟨_,rfl,_,rfl,n,n,rfl,rfl,?_⟩
  show Q (V.bl (decide (n=n))) _
  rw [Zr_ rfl]
  exact q _ (((ss.trans sy).trans s').trans se)
end
end Own
namespace Own
open PySem L2
section
variable {P:Program} {w:World} {K:Θf} {mg:Str->Option Value} {base:Heap}
seal PySem.wpAny
noncomputable abbrev Pb:Stmt:=top 92
theorem scNoRow:FnScope ["_law_names_here","_law_rules_here","_law_cell","_law_one","_law_some"] ["_law_names_here","_law_rules_here","_law_cell"] (B6 Pb):=⟨rfl,rfl,rfl,by decide +kernel,rfl,by decide +kernel,by decide +kernel⟩
theorem Xf {f:Addr} {fd:FuncData} (F:Fun K "_law_no_row" "_law_no_row" Pb f fd) (zlen:mg "len" = none) (zstr:mg "str" = none):FnOk P w K mg base CX0 3 f fd ["_law_names_here","_law_rules_here","_law_cell"] (W9 K):=by
 refine F.ok scNoRow (fun vs H Q E h=>?_) (fun cdv A outer s H vs Q E hr h=>?_)
 ·obtain ⟨np,rl,nms,xs,c,rfl,_⟩:=h
  rfl
 ·obtain ⟨np,rl,nms,xs,c,rfl,hn,NN,l4,hrl,l12,q⟩:=h
  have nd:=scNoRow.nd
  have ss:Same H H:=Same.refl _
  have ln:(nms.map V.str).length=nms.length:=Θl ..
  have ega:(nms.map V.str)[0]? = some (V.str (nms.getD 0 noS)):=by
   rw [Θg,Zu_,Θh (show 0 < nms.length from NN.l1)]
   rfl
  have n0m:nms.getD 0 noS∈nms:=(G1 (show 0 < nms.length from NN.l1)).1
  have n0l:=NN.len _ n0m
  have sz:=sizeLine_eq
  refine ⟨_,(A8 (C3 (i:=3) nd rfl (Or.inl rfl) (C7 (C6 (K:=K) rfl) (pv 0) A9 (fun _ _=>rfl)))
   (A8 (C3 (i:=4) nd rfl (Or.inl rfl) (D8 (A0 K5 (A0 A9 (A0 (D8 (A0 B7 A7)) (A0 W4 (A0 B7 (A0 B7 (A0 B7 (A0 B7 (A0 B7 (A0 (B8 C1 B7 (pv 3)) (A0 B7 (A0 B7 A7))))))))))))))
   (A8 (C3 (i:=4) nd rfl (Or.inl rfl) (B8 F2 (pv 4) (D8 (A0 (B8 C1 (B8 C1 B7 (pv 3)) B7) (A0 B7 (A0 B7 (A0 B7 A7)))))))
   (A8 (C3 (i:=4) nd rfl (Or.inl rfl) (B8 F2 (pv 4) (D8 (A0 B7 (A0 B7 (A0 (B8 C1 B7 (pv 3)) (A0 (B8 C1 B7 (pv 3)) (A0 B7 (A0 B7 A7)))))))))
   (A8 (C3 (i:=4) nd rfl (Or.inl rfl) (B8 F2 (pv 4) (D8 (A0 B7 (A0 (B8 C1 B7 (I9 U5 (by rfl) zstr PyProof.Rows.boot_str (A0 (D7 (E4 (K:=K) rfl) (by rfl) zlen PySem.boot_len (A0 (pv 1) A7)) A7))) (A0 B7 (A0 B7 (A0 B7 (A0 B7 (A0 B7 (A0 B7 A7)))))))))))
   (A8 (C3 (i:=4) nd rfl (Or.inl rfl) (B8 F2 (pv 4) (D8 (A0 B7 (A0 B7 (A0 (B8 C1 B7 (pv 3)) (A0 B7 (A0 B7 A7))))))))
   (A8 (C3 (i:=4) nd rfl (Or.inl rfl) (B8 F2 (pv 4) (D8 (A0 B7 (A0 B7 (A0 B7 A7))))))
   (B0 (C2 (G3 (A0 (C7 (C6 (K:=K) rfl) (pv 4) (B8 D9 (pv 2) (D7 (E4 (K:=K) rfl) (by rfl) zlen PySem.boot_len (A0 (pv 4) A7))) (fun _ _=>rfl)) (A0 B7 A7)))))))))))),?_⟩
  refine ⟨_,rfl,np,_,_,_,rfl,rfl,ss.seq hn,B9 (j:=0) (v:=V.str (nms.getD 0 noS)) ega,?_⟩
  generalize nms.getD 0 noS=one at ega n0m n0l
  refine ⟨(by show 1<=sizeLine; decide),fun ls hls=>?_⟩
  generalize eo:(.lst [V.str (Str.ofString "show")]:HO)=ob
  have ns:=Same.new (o:=ob) hls
  have gs:(upd H ls ob) ls=some ob:=A6
  replace ss:=ss.trans ns
  generalize upd H ls ob=Hs at ss gs
  clear ns
  subst eo
  refine ⟨_,rfl,_,_,rfl,rfl,(by show 5 + one.length<=sizeLine; omega),(by show 12<=sizeLine; decide),fun a0 ha0=>?_⟩
  generalize eo:(.lst (Bi one ls):HO)=ob
  have n0:=Same.new (o:=ob) ha0
  have g0:(upd Hs a0 ob) a0=some ob:=A6
  replace gs:=n0 _ _ gs
  replace ss:=ss.trans n0
  generalize upd Hs a0 ob=J0 at ss g0 gs
  clear n0
  subst eo
  refine ⟨_,rfl,_,rfl,_,_,rfl,rfl,(by show 8 + one.length<=sizeLine; omega),_,_,rfl,rfl,(by rw [Str.length_append]; show 8 + one.length + 7<=sizeLine; omega),(by show 4<=sizeLine; decide),fun b1 hb1=>?_⟩
  generalize eo:(.lst (Bj one):HO)=ob
  have nb1:=Same.new (o:=ob) hb1
  have gb1:(upd J0 b1 ob) b1=some ob:=A6
  replace gs:=nb1 _ _ gs
  replace g0:=nb1 _ _ g0
  replace ss:=ss.trans nb1
  generalize upd J0 b1 ob=M1 at ss gb1 gs g0
  clear nb1
  subst eo
  refine ⟨a0,b1,_,_,rfl,rfl,g0,gb1,(by show 16<=sizeLine; decide),fun a1 ha1=>?_⟩
  generalize eo:(.lst (Bi one ls++Bj one):HO)=ob
  have n1:=Same.new (o:=ob) ha1
  have g1:(upd M1 a1 ob) a1=some ob:=A6
  replace gs:=n1 _ _ gs
  replace ss:=ss.trans n1
  generalize upd M1 a1 ob=J1 at ss g1 gs
  clear n1
  subst eo
  refine ⟨_,rfl,_,rfl,_,_,rfl,rfl,(by show 12 + one.length<=sizeLine; omega),_,rfl,_,_,rfl,rfl,(by show 11 + one.length<=sizeLine; omega),(by show 6<=sizeLine; decide),fun b2 hb2=>?_⟩
  generalize eo:(.lst (Di one):HO)=ob
  have nb2:=Same.new (o:=ob) hb2
  have gb2:(upd J1 b2 ob) b2=some ob:=A6
  replace gs:=nb2 _ _ gs
  replace g1:=nb2 _ _ g1
  replace ss:=ss.trans nb2
  generalize upd J1 b2 ob=M2 at ss gb2 gs g1
  clear nb2
  subst eo
  refine ⟨a1,b2,_,_,rfl,rfl,g1,gb2,(by show 22<=sizeLine; decide),fun a2 ha2=>?_⟩
  generalize eo:(.lst (Bi one ls++Bj one++Di one):HO)=ob
  have n2:=Same.new (o:=ob) ha2
  have g2:(upd M2 a2 ob) a2=some ob:=A6
  replace gs:=n2 _ _ gs
  replace ss:=ss.trans n2
  generalize upd M2 a2 ob=J2 at ss g2 gs
  clear n2
  subst eo
  refine ⟨_,rfl,_,rfl,rl,_,rfl,.inl (ss.seq hrl),_,rfl,(by show Nat.log2 xs.length < 1920; exact Nat.lt_of_le_of_lt (Nat.log2_le_self _) (by omega)),_,_,rfl,rfl,(by have:=(Wn xs.length l12).1; show 5 + (O0 xs.length).length<=sizeLine; omega),(by show 8<=sizeLine; decide),fun b3 hb3=>?_⟩
  generalize eo:(.lst [V.str (Str.ofString "drop"),V.str (Str.ofString "drop "++Str.ofString (toString (xs.length:Int))),V.str (Str.ofString "drop 00"),V.str (Str.ofString "drop -1"),V.str (Str.ofString "drop 123"),V.str (Str.ofString "drop x"),V.str (Str.ofString "drop "),V.str (Str.ofString "drop 0 0")]:HO)=ob
  have nb3:=Same.new (o:=ob) hb3
  have gb3:(upd J2 b3 ob) b3=some ob:=A6
  replace gs:=nb3 _ _ gs
  replace g2:=nb3 _ _ g2
  replace ss:=ss.trans nb3
  generalize upd J2 b3 ob=M3 at ss gb3 gs g2
  clear nb3
  subst eo
  replace gb3:M3 b3=some (.lst (Fj xs.length)):=gb3
  refine ⟨a2,b3,_,_,rfl,rfl,g2,gb3,(by show 30<=sizeLine; decide),fun a3 ha3=>?_⟩
  generalize eo:(.lst (Bi one ls++Bj one++Di one++Fj xs.length):HO)=ob
  have n3:=Same.new (o:=ob) ha3
  have g3:(upd M3 a3 ob) a3=some ob:=A6
  replace gs:=n3 _ _ gs
  replace ss:=ss.trans n3
  generalize upd M3 a3 ob=J3 at ss g3 gs
  clear n3
  subst eo
  refine ⟨_,rfl,_,rfl,_,_,rfl,rfl,(by show 14 + one.length<=sizeLine; omega),(by show 5<=sizeLine; decide),fun b4 hb4=>?_⟩
  generalize eo:(.lst (Hy one):HO)=ob
  have nb4:=Same.new (o:=ob) hb4
  have gb4:(upd J3 b4 ob) b4=some ob:=A6
  replace gs:=nb4 _ _ gs
  replace g3:=nb4 _ _ g3
  replace ss:=ss.trans nb4
  generalize upd J3 b4 ob=M4 at ss gb4 gs g3
  clear nb4
  subst eo
  refine ⟨a3,b4,_,_,rfl,rfl,g3,gb4,(by show 35<=sizeLine; decide),fun a4 ha4=>?_⟩
  generalize eo:(.lst (Bi one ls++Bj one++Di one++Fj xs.length++Hy one):HO)=ob
  have n4:=Same.new (o:=ob) ha4
  have g4:(upd M4 a4 ob) a4=some ob:=A6
  replace gs:=n4 _ _ gs
  replace ss:=ss.trans n4
  generalize upd M4 a4 ob=J4 at ss g4 gs
  clear n4
  subst eo
  refine ⟨_,rfl,(by show 3<=sizeLine; decide),fun b5 hb5=>?_⟩
  generalize eo:(.lst (Ml ):HO)=ob
  have nb5:=Same.new (o:=ob) hb5
  have gb5:(upd J4 b5 ob) b5=some ob:=A6
  replace gs:=nb5 _ _ gs
  replace g4:=nb5 _ _ g4
  replace ss:=ss.trans nb5
  generalize upd J4 b5 ob=M5 at ss gb5 gs g4
  clear nb5
  subst eo
  refine ⟨a4,b5,_,_,rfl,rfl,g4,gb5,(by show 38<=sizeLine; decide),fun a5 ha5=>?_⟩
  generalize eo:(.lst (Bi one ls++Bj one++Di one++Fj xs.length++Hy one++Ml ):HO)=ob
  have n5:=Same.new (o:=ob) ha5
  have g5:(upd M5 a5 ob) a5=some ob:=A6
  replace gs:=n5 _ _ gs
  replace ss:=ss.trans n5
  generalize upd M5 a5 ob=J5 at ss g5 gs
  clear n5
  subst eo
  have e38:(Bi one ls++Bj one++Di one++Fj xs.length++Hy one++Ml ).length=38:=rfl
  have ev:(Xy one xs.length ls)[c % 38]? = some ((Xy one xs.length ls)[c % 38]'(Nat.mod_lt _ (by decide))):=Θh _
  have hm:=Θe ev
  generalize (Xy one xs.length ls)[c % 38]'(Nat.mod_lt _ (by decide))=v at ev hm
  refine ⟨_,rfl,_,rfl,_,rfl,a5,_,rfl,.inl (SqL.of g5),c,38,rfl,rfl,(by show 0 < 38; decide),a5,_,_,_,rfl,rfl,SqL.of g5,B9 (j:=c % 38) (v:=v) ev,(by show 2<=sizeLine; decide),fun t ht=>?_⟩
  have nt:=Same.new (o:=.tup [v,V.str (Str.ofString "row")]) ht
  exact q t v .row _ (ss.trans nt) (Abd NN l12 (Jn NN n0m) (nt _ _ gs) v hm) A6
end
end Own
namespace Own
open PySem L2
section
variable {P:Program} {w:World} {K:Θf} {mg:Str->Option Value} {base:Heap}
seal PySem.wpAny
noncomputable abbrev Ki:Stmt:=top 93
theorem scNoSet:FnScope ["_law_names_here","_law_rules_here","_law_cell","_law_one","_law_other","_law_bad","_law_some"] ["_law_names_here","_law_rules_here","_law_cell"] (B6 Ki):=⟨rfl,rfl,rfl,by decide +kernel,rfl,by decide +kernel,by decide +kernel⟩
theorem Xg {f:Addr} {fd:FuncData} (F:Fun K "_law_no_set" "_law_no_set" Ki f fd) :FnOk P w K mg base CX0 3 f fd ["_law_names_here","_law_rules_here","_law_cell"] (W9 K):=by
 refine F.ok scNoSet (fun vs H Q E h=>?_) (fun cdv A outer s H vs Q E hr h=>?_)
 ·obtain ⟨np,rl,nms,xs,c,rfl,_⟩:=h
  rfl
 ·obtain ⟨np,rl,nms,xs,c,rfl,hn,NN,l4,hrl,l12,q⟩:=h
  have nd:=scNoSet.nd
  have ss:Same H H:=Same.refl _
  have ln:(nms.map V.str).length=nms.length:=Θl ..
  have ega:(nms.map V.str)[0]? = some (V.str (nms.getD 0 noS)):=by
   rw [Θg,Zu_,Θh (show 0 < nms.length from NN.l1)]
   rfl
  have n0m:nms.getD 0 noS∈nms:=(G1 (show 0 < nms.length from NN.l1)).1
  have n0l:=NN.len _ n0m
  have sz:=sizeLine_eq
  refine ⟨_,(A8 (C3 (i:=3) nd rfl (Or.inl rfl) (C7 (C6 (K:=K) rfl) (pv 0) A9 (fun _ _=>rfl)))
   (A8 (C3 (i:=4) nd rfl (Or.inl rfl) (C7 (C6 (K:=K) rfl) (G9 (xs:=["_law_word"]) (cs ["_law_names_here","_law_rules_here","_law_cell","_law_one","_law_other","_law_bad","_law_some"] (B6 Ki) rfl rfl (by decide +kernel)) rfl (F1 (K:=K) rfl (D8 (A0 B7 (A0 B7 (A0 B7 (A0 B7 (A0 B7 (A0 B7 A7)))))))) (fun _ _ _=>D3 (i:=0) (show (["_law_word","_law_names_here","_law_rules_here","_law_cell","_law_one","_law_other","_law_bad","_law_some"]:List Str).Nodup by decide +kernel) rfl (Or.inl rfl)) (fun _ _ _=>(Y4 (C5 (Oo (K:=K) rfl) (pv 0) (pv 1) (by rfl)))) (fun _ _ _=>(pv 0))) A9 (fun _ _=>rfl)))
   (A8 (C3 (i:=5) nd rfl (Or.inl rfl) (C7 (C6 (K:=K) rfl) (D8 (A0 (pv 4) (A0 B7 (A0 (B8 C1 (B8 C1 (pv 3) B7) (pv 3)) (A0 (B8 C1 (pv 3) B7) (A0 B7 (A0 (B8 C1 B7 (pv 3)) (A0 (B8 C1 (pv 3) B7) (A0 B7 A7))))))))) (B8 D9 (B8 E5 (pv 2) A9) A9) (fun _ _=>rfl)))
   (A8 (C3 (i:=6) nd rfl (Or.inl rfl) (D8 (A0 (B8 C1 (B8 C1 B7 (pv 5)) B7) (A0 (B8 C1 B7 (pv 5)) (A0 (B8 C1 (B8 C1 B7 (pv 5)) B7) (A0 (B8 C1 B7 (pv 5)) A7))))))
   (A8 (C3 (i:=6) nd rfl (Or.inl rfl) (B8 F2 (pv 6) (D8 (A0 (B8 C1 (B8 C1 (B8 C1 B7 (pv 5)) B7) (pv 3)) (A0 (B8 C1 B7 (pv 5)) (A0 (B8 C1 (B8 C1 (B8 C1 B7 (pv 5)) B7) (pv 3)) A7))))))
   (A8 (C3 (i:=6) nd rfl (Or.inl rfl) (B8 F2 (pv 6) (D8 (A0 (B8 C1 B7 (pv 5)) (A0 (B8 C1 (B8 C1 B7 (pv 3)) B7) (A0 B7 (A0 (B8 C1 (B8 C1 B7 (pv 5)) B7) A7)))))))
   (A8 (C3 (i:=6) nd rfl (Or.inl rfl) (B8 F2 (pv 6) (D8 (A0 (B8 C1 (B8 C1 (B8 C1 B7 (pv 5)) B7) (pv 5)) (A0 (B8 C1 (B8 C1 (B8 C1 B7 (pv 5)) B7) (pv 5)) A7)))))
   (B0 (C2 (G3 (A0 (C7 (C6 (K:=K) rfl) (pv 6) (B8 D9 (pv 2) A9) (fun _ _=>rfl)) (A0 B7 A7)))))))))))),?_⟩
  refine ⟨_,rfl,np,_,_,_,rfl,rfl,ss.seq hn,B9 (j:=0) (v:=V.str (nms.getD 0 noS)) ega,?_⟩
  generalize nms.getD 0 noS=one at ega n0m n0l
  refine ⟨(by show 6<=sizeLine; decide),fun wl hwl=>⟨wl,rfl,⟨_,SqL.of A6⟩,?_⟩⟩
  have sB:=Same.new (o:=.lst (six.map V.str)) hwl
  have hw:(upd H wl (.lst (six.map V.str))) wl=some (.lst (six.map V.str)):=A6
  refine N3 (K:=K) (xs:=six.map V.str) (fun j acc H2=>H2=upd H wl (.lst (six.map V.str))/\acc=((six.take j).filter (fun w=>!decide (w∈nms))).map V.str) (by decide) ⟨rfl,rfl⟩ (fun j acc H2 hj h=>?_) (fun j v acc H2 hv h=>?_) (fun acc H2 h=>?_)
  ·obtain ⟨rfl,rfl⟩:=h
   exact ⟨SqL.of hw,by rw [Θl]; exact Zo_ (List.length_filter_le _ _) (List.length_take_le _ _)⟩
  ·obtain ⟨rfl,rfl⟩:=h
   rw [Θg] at hv
   cases ec:six[j]? with
   | none=>rw [ec] at hv; cases hv
   | some x=>
    rw [ec] at hv
    obtain rfl:=(Θo hv).symm
    refine ⟨rfl,_,rfl,_,rfl,np,_,rfl,.inl (sB.seq hn),rfl,Aq _,_,rfl,?_⟩
    rw [if_pos rfl,Av,List.take_succ,ec,List.filter_append]
    refine F7 (fun hc=>?_) (fun hc=>?_)
    ·refine ⟨_,rfl,rfl,?_⟩
     rw [show (some x).toList=[x] from rfl,List.filter_cons_of_pos (p:=fun w=>!decide (w∈nms)) hc,List.filter_nil,Zw_]
     rfl
    ·refine ⟨rfl,?_⟩
     rw [show (some x).toList=[x] from rfl,List.filter_cons_of_neg (p:=fun w=>!decide (w∈nms)) hc,List.filter_nil,List.append_nil]
  obtain ⟨rfl,rfl⟩:=h
  obtain ⟨oth,rest,eo,no,fo,do_,wo⟩:=Ac9 l4
  have tk:six.take (six.map V.str).length=six:=rfl
  rw [tk,eo]
  intro ol hol
  refine ⟨ol,_,_,_,rfl,rfl,SqL.of A6,B9 (j:=0) (v:=V.str oth) rfl,?_⟩
  have s0:=sB.trans (Same.new (o:=.lst ((oth :: rest).map V.str)) hol)
  generalize upd (upd H wl (.lst (six.map V.str))) ol (.lst ((oth :: rest).map V.str))=H0 at s0
  replace ss:=s0
  clear s0
  refine ⟨_,rfl,_,rfl,one,_,rfl,rfl,(by show one.length + 1<=sizeLine; omega),_,rfl,_,one,rfl,rfl,(by rw [Str.length_append]; show one.length + 1 + one.length<=sizeLine; omega),_,rfl,one,_,rfl,rfl,(by show one.length + 1<=sizeLine; omega),_,rfl,_,one,rfl,rfl,(by show 1 + one.length<=sizeLine; omega),_,rfl,one,_,rfl,rfl,(by show one.length + 2<=sizeLine; omega),(by show 8<=sizeLine; decide),fun lb hlb=>?_⟩
  generalize eo:(.lst [V.str (oth),V.str (Str.ofString "A"),V.str (one++Str.ofString ","++one),V.str (one++Str.ofString ","),V.str (Str.ofString ""),V.str (Str.ofString ","++one),V.str (one++Str.ofString ",-"),V.str (Str.ofString "--")]:HO)=ob
  have nb:=Same.new (o:=ob) hlb
  have gb:(upd H0 lb ob) lb=some ob:=A6
  replace ss:=ss.trans nb
  generalize upd H0 lb ob=Hb at ss gb
  clear nb
  subst eo
  replace gb:Hb lb=some (.lst ((Ng one oth).map V.str)):=gb
  have ho:(Ng one oth)[c / 16 % 8]? = some ((Ng one oth)[c / 16 % 8]'(Nat.mod_lt _ (by decide))):=Θh _
  have hom:=Θe ho
  generalize (Ng one oth)[c / 16 % 8]'(Nat.mod_lt _ (by decide))=bb at ho hom
  have eb:((Ng one oth).map V.str)[c / 16 % 8]? = some (V.str bb):=by rw [Θg,ho]; rfl
  obtain ⟨nB,wB⟩:=Zr NN n0m no fo do_ wo bb hom
  have bl:=wB.1
  refine ⟨_,rfl,c,16,rfl,rfl,(by show 0 < 16/\16 < 1073741824; decide),c / 16,8,rfl,rfl,(by show 0 < 8; decide),lb,_,_,_,rfl,rfl,SqL.of gb,B9 (j:=c / 16 % 8) (v:=V.str bb) eb,?_⟩
  refine ⟨_,rfl,_,_,rfl,rfl,(by (try simp only [Str.length_append]); show 8 + bb.length<=sizeLine; omega),_,_,rfl,rfl,(by (try simp only [Str.length_append]); show 8 + bb.length + 9<=sizeLine; omega),_,rfl,_,_,rfl,rfl,(by (try simp only [Str.length_append]); show 15 + bb.length<=sizeLine; omega),_,rfl,_,_,rfl,rfl,(by (try simp only [Str.length_append]); show 4 + bb.length<=sizeLine; omega),_,_,rfl,rfl,(by (try simp only [Str.length_append]); show 4 + bb.length + 2<=sizeLine; omega),_,rfl,_,_,rfl,rfl,(by (try simp only [Str.length_append]); show 6 + bb.length<=sizeLine; omega),(by show 4<=sizeLine; decide),fun a0 ha0=>?_⟩
  generalize eo:(.lst (Ia one bb):HO)=ob
  have n0:=Same.new (o:=ob) ha0
  have g0:(upd Hb a0 ob) a0=some ob:=A6
  replace ss:=ss.trans n0
  generalize upd Hb a0 ob=J0 at ss g0
  clear n0
  subst eo
  refine ⟨_,rfl,_,rfl,_,_,rfl,rfl,(by (try simp only [Str.length_append]); show 5 + bb.length<=sizeLine; omega),_,_,rfl,rfl,(by (try simp only [Str.length_append]); show 5 + bb.length + 8<=sizeLine; omega),_,rfl,_,_,rfl,rfl,(by (try simp only [Str.length_append]); show 5 + bb.length + 8 + one.length<=sizeLine; omega),_,rfl,_,_,rfl,rfl,(by (try simp only [Str.length_append]); show 14 + bb.length<=sizeLine; omega),_,rfl,_,_,rfl,rfl,(by (try simp only [Str.length_append]); show 4 + bb.length<=sizeLine; omega),_,_,rfl,rfl,(by (try simp only [Str.length_append]); show 4 + bb.length + 8<=sizeLine; omega),_,rfl,_,_,rfl,rfl,(by (try simp only [Str.length_append]); show 4 + bb.length + 8 + one.length<=sizeLine; omega),(by show 3<=sizeLine; decide),fun b1 hb1=>?_⟩
  generalize eo:(.lst (Ib one bb):HO)=ob
  have nb1:=Same.new (o:=ob) hb1
  have gb1:(upd J0 b1 ob) b1=some ob:=A6
  replace g0:=nb1 _ _ g0
  replace ss:=ss.trans nb1
  generalize upd J0 b1 ob=M1 at ss gb1 g0
  clear nb1
  subst eo
  refine ⟨a0,b1,_,_,rfl,rfl,g0,gb1,(by show 7<=sizeLine; decide),fun a1 ha1=>?_⟩
  generalize eo:(.lst (Ia one bb++Ib one bb):HO)=ob
  have n1:=Same.new (o:=ob) ha1
  have g1:(upd M1 a1 ob) a1=some ob:=A6
  replace ss:=ss.trans n1
  generalize upd M1 a1 ob=J1 at ss g1
  clear n1
  subst eo
  refine ⟨_,rfl,_,rfl,_,_,rfl,rfl,(by (try simp only [Str.length_append]); show 11 + bb.length<=sizeLine; omega),_,rfl,_,_,rfl,rfl,(by (try simp only [Str.length_append]); show 4 + one.length<=sizeLine; omega),_,_,rfl,rfl,(by (try simp only [Str.length_append]); show 4 + one.length + 9<=sizeLine; omega),_,rfl,_,_,rfl,rfl,(by (try simp only [Str.length_append]); show 4 + bb.length<=sizeLine; omega),_,_,rfl,rfl,(by (try simp only [Str.length_append]); show 4 + bb.length + 7<=sizeLine; omega),(by show 4<=sizeLine; decide),fun b2 hb2=>?_⟩
  generalize eo:(.lst (Mm one bb):HO)=ob
  have nb2:=Same.new (o:=ob) hb2
  have gb2:(upd J1 b2 ob) b2=some ob:=A6
  replace g1:=nb2 _ _ g1
  replace ss:=ss.trans nb2
  generalize upd J1 b2 ob=M2 at ss gb2 g1
  clear nb2
  subst eo
  refine ⟨a1,b2,_,_,rfl,rfl,g1,gb2,(by show 11<=sizeLine; decide),fun a2 ha2=>?_⟩
  generalize eo:(.lst (Ia one bb++Ib one bb++Mm one bb):HO)=ob
  have n2:=Same.new (o:=ob) ha2
  have g2:(upd M2 a2 ob) a2=some ob:=A6
  replace ss:=ss.trans n2
  generalize upd M2 a2 ob=J2 at ss g2
  clear n2
  subst eo
  refine ⟨_,rfl,_,rfl,_,_,rfl,rfl,(by (try simp only [Str.length_append]); show 8 + bb.length<=sizeLine; omega),_,_,rfl,rfl,(by (try simp only [Str.length_append]); show 8 + bb.length + 6<=sizeLine; omega),_,rfl,_,_,rfl,rfl,(by (try simp only [Str.length_append]); show 8 + bb.length + 6 + bb.length<=sizeLine; omega),_,rfl,_,_,rfl,rfl,(by (try simp only [Str.length_append]); show 4 + bb.length<=sizeLine; omega),_,_,rfl,rfl,(by (try simp only [Str.length_append]); show 4 + bb.length + 1<=sizeLine; omega),_,rfl,_,_,rfl,rfl,(by (try simp only [Str.length_append]); show 4 + bb.length + 1 + bb.length<=sizeLine; omega),(by show 2<=sizeLine; decide),fun b3 hb3=>?_⟩
  generalize eo:(.lst (Rc one bb):HO)=ob
  have nb3:=Same.new (o:=ob) hb3
  have gb3:(upd J2 b3 ob) b3=some ob:=A6
  replace g2:=nb3 _ _ g2
  replace ss:=ss.trans nb3
  generalize upd J2 b3 ob=M3 at ss gb3 g2
  clear nb3
  subst eo
  refine ⟨a2,b3,_,_,rfl,rfl,g2,gb3,(by show 13<=sizeLine; decide),fun a3 ha3=>?_⟩
  generalize eo:(.lst (Ia one bb++Ib one bb++Mm one bb++Rc one bb):HO)=ob
  have n3:=Same.new (o:=ob) ha3
  have g3:(upd M3 a3 ob) a3=some ob:=A6
  replace ss:=ss.trans n3
  generalize upd M3 a3 ob=J3 at ss g3
  clear n3
  subst eo
  have ev:(Ym one bb)[c % 13]? = some ((Ym one bb)[c % 13]'(Nat.mod_lt _ (by decide))):=Θh _
  have hm:=Θe ev
  generalize (Ym one bb)[c % 13]'(Nat.mod_lt _ (by decide))=v at ev hm
  refine ⟨_,rfl,_,rfl,c,13,rfl,rfl,(by show 0 < 13; decide),a3,_,_,_,rfl,rfl,SqL.of g3,B9 (j:=c % 13) (v:=v) ev,(by show 2<=sizeLine; decide),fun t ht=>?_⟩
  exact q t v .set _ (ss.trans (Same.new ht)) (Abi NN n0m nB wB v hm) A6
end
end Own
namespace Own
open PySem L2
section
variable {P:Program} {w:World} {K:Θf} {mg:Str->Option Value} {base:Heap}
seal PySem.wpAny
noncomputable abbrev Pa:Stmt:=top 94
theorem scNoCut:FnScope ["_law_names_here","_law_rules_here","_law_cell","_law_full","_law_gone","_law_one","_law_other"] ["_law_names_here","_law_rules_here","_law_cell"] (B6 Pa):=⟨rfl,rfl,rfl,by decide +kernel,rfl,by decide +kernel,by decide +kernel⟩
theorem Xe {f fSE:Addr} {fd fdSE:FuncData} (F:Fun K "_law_no_cut" "_law_no_cut" Pa f fd) (GSE:FnOk P w K mg base CX0 2 fSE fdSE ["_law_names_here","_law_some"] (Y8 K)) (mSE:mg "_law_set" = some (.ref fSE)) (kSE:Θk K fSE) (bSE:Binds K fdSE ["_law_names_here","_law_some"] []) (zlen:mg "len" = none):FnOk P w K mg base CX0 3 f fd ["_law_names_here","_law_rules_here","_law_cell"] (W9 K):=by
 refine F.ok scNoCut (fun vs H Q E h=>?_) (fun cdv A outer s H vs Q E hr h=>?_)
 ·obtain ⟨np,rl,nms,xs,c,rfl,_⟩:=h
  rfl
 ·obtain ⟨np,rl,nms,xs,c,rfl,hn,NN,l4,hrl,l12,q⟩:=h
  have nd:=scNoCut.nd
  have ss:Same H H:=Same.refl _
  have ln:(nms.map V.str).length=nms.length:=Θl ..
  have hr2:Room 2 _:=hr.mono (by decide)
  have ega:(nms.map V.str)[0]? = some (V.str (nms.getD 0 noS)):=by
   rw [Θg,Zu_,Θh (show 0 < nms.length from NN.l1)]
   rfl
  have n0m:nms.getD 0 noS∈nms:=(G1 (show 0 < nms.length from NN.l1)).1
  have n0l:=NN.len _ n0m
  have sz:=sizeLine_eq
  refine ⟨_,(A8 (C3 (i:=3) nd rfl (Or.inl rfl) (B8 Jv (B8 O9 A9 (D7 (E4 (K:=K) rfl) (by rfl) zlen PySem.boot_len (A0 (pv 0) A7))) A9))
   (A8 (C3 (i:=4) nd rfl (Or.inl rfl) (B8 O9 A9 (B8 D9 (pv 2) (D7 (E4 (K:=K) rfl) (by rfl) zlen PySem.boot_len (A0 (pv 0) A7)))))
   (A8 (C3 (i:=5) nd rfl (Or.inl rfl) (B8 S3 (B8 E5 (pv 2) A9) (B8 Jv (pv 3) (pv 4))))
   (A8 (C3 (i:=6) nd rfl (Or.inl rfl) (B8 S3 (B8 E5 (pv 2) A9) (B8 Jv (pv 3) (pv 4))))
   (B0 (C2 (G3 (A0 (B8 C1 (B8 C1 (B8 C1 B7 (C0 GSE hr2 rfl mSE kSE bSE .nil D1 (A0 (pv 0) (A0 (pv 5) A7)))) B7) (C0 GSE hr2 rfl mSE kSE bSE .nil D1 (A0 (pv 0) (A0 (pv 6) A7)))) (A0 B7 A7))))))))),?_⟩
  have l7:=NN.l7
  have pp:0 < 2 ^ nms.length:=Nat.two_pow_pos _
  have hi:c % nms.length < nms.length:=Nat.mod_lt _ NN.l1
  have h3:2 ^ (c % nms.length) < 2 ^ nms.length:=Nat.pow_lt_pow_right (by decide) hi
  refine ⟨_,rfl,np,_,rfl,.inl hn,?_⟩
  rw [ln]
  refine ⟨nms.length,rfl,rfl,by omega,2 ^ nms.length,1,rfl,rfl,pp,?_⟩
  refine ⟨_,rfl,_,rfl,np,_,rfl,.inl hn,c,(nms.map V.str).length,rfl,rfl,(by rw [ln]; exact NN.l1),?_⟩
  rw [ln]
  refine ⟨c % nms.length,rfl,rfl,by omega,?_⟩
  refine ⟨_,rfl,c,8,rfl,rfl,(by show 0 < 8/\8 < 1073741824; decide),_,rfl,_,rfl,2 ^ nms.length - 1,2 ^ (c % nms.length),rfl,rfl,(by omega),c / 8,2 ^ nms.length - 1 - 2 ^ (c % nms.length),rfl,rfl,?_⟩
  refine ⟨_,rfl,c,64,rfl,rfl,(by show 0 < 64/\64 < 1073741824; decide),_,rfl,_,rfl,2 ^ nms.length - 1,2 ^ (c % nms.length),rfl,rfl,(by omega),c / 64,2 ^ nms.length - 1 - 2 ^ (c % nms.length),rfl,rfl,?_⟩
  have hxy:=Ac8 (a:=c / 8) (b:=c / 64) hi
  have hx:=Wr (a:=c / 8) hi
  have hy:=Wr (a:=c / 64) hi
  dsimp (config:={ proj:=false,iota:=false }) only
  generalize c / 8&&&(2 ^ nms.length - 1 - 2 ^ (c % nms.length))=x at hxy hx
  generalize c / 64&&&(2 ^ nms.length - 1 - 2 ^ (c % nms.length))=y at hxy hy
  have lx:=L8 NN hx
  have ly:=L8 NN hy
  refine ⟨_,rfl,_,rfl,np,nms,x,rfl,hn,NN,hx,fun H1 s1=>?_⟩
  refine ⟨_,_,rfl,rfl,(by show 4 + (E2 nms x).length<=sizeLine; omega),_,_,rfl,rfl,(by rw [Str.length_append]; show 4 + (E2 nms x).length + 1<=sizeLine; omega),_,rfl,_,rfl,np,nms,y,rfl,s1.seq hn,NN,hy,fun H2 s2=>?_⟩
  refine ⟨_,_,rfl,rfl,(by rw [Str.length_append,Str.length_append]; show 4 + (E2 nms x).length + 1 + (E2 nms y).length<=sizeLine; omega),(by show 2<=sizeLine; decide),fun t ht=>?_⟩
  have h:=Abb (n:=xs.length) NN l4 hx hy hxy
  rw [show Str.join spaceS [Dq,E2 nms x,E2 nms y]=Str.ofString "cut "++E2 nms x++Str.ofString " "++E2 nms y by (show Dq++spaceS++(E2 nms x++spaceS++E2 nms y)=_); simp only [<-Str.append_assoc]; rfl] at h
  exact q t _ .cut _ ((s1.trans s2).trans (Same.new ht)) (.inr ⟨_,rfl,h⟩) A6
end
end Own
namespace Own
open PySem L2
section
variable {P:Program} {w:World} {K:Θf} {mg:Str->Option Value} {base:Heap}
seal PySem.wpAny
noncomputable abbrev Adv:Stmt:=top 95
theorem scRow:FnScope ["_law_names_here","_law_rules_here","_law_cell"] ["_law_names_here","_law_rules_here","_law_cell"] (B6 Adv):=⟨rfl,rfl,rfl,by decide +kernel,rfl,by decide +kernel,by decide +kernel⟩
theorem Ac1 {f fXC fXS fXR:Addr} {fd fdXC fdXS fdXR:FuncData} (F:Fun K "_law_row" "_law_row" Adv f fd) (GXC:FnOk P w K mg base CX0 3 fXC fdXC ["_law_names_here","_law_rules_here","_law_cell"] (W9 K)) (mXC:mg "_law_no_cut" = some (.ref fXC)) (kXC:Θk K fXC) (bXC:Binds K fdXC ["_law_names_here","_law_rules_here","_law_cell"] []) (GXS:FnOk P w K mg base CX0 3 fXS fdXS ["_law_names_here","_law_rules_here","_law_cell"] (W9 K)) (mXS:mg "_law_no_set" = some (.ref fXS)) (kXS:Θk K fXS) (bXS:Binds K fdXS ["_law_names_here","_law_rules_here","_law_cell"] []) (GXR:FnOk P w K mg base CX0 3 fXR fdXR ["_law_names_here","_law_rules_here","_law_cell"] (W9 K)) (mXR:mg "_law_no_row" = some (.ref fXR)) (kXR:Θk K fXR) (bXR:Binds K fdXR ["_law_names_here","_law_rules_here","_law_cell"] []) (zlen:mg "len" = none):FnOk P w K mg base CX0 4 f fd ["_law_names_here","_law_rules_here","_law_cell"] (W9 K):=by
 refine F.ok scRow (fun vs H Q E h=>?_) (fun cdv A outer s H vs Q E hr h=>?_)
 ·obtain ⟨np,rl,nms,xs,c,rfl,_⟩:=h
  rfl
 ·obtain ⟨np,rl,nms,xs,c,rfl,hn,NN,l4,hrl,l12,q⟩:=h
  have nd:=scRow.nd
  have ss:Same H H:=Same.refl _
  have ln:(nms.map V.str).length=nms.length:=Θl ..
  have hr3:Room 3 _:=hr.mono (by decide)
  have ega:(nms.map V.str)[0]? = some (V.str (nms.getD 0 noS)):=by
   rw [Θg,Zu_,Θh (show 0 < nms.length from NN.l1)]
   rfl
  have n0m:nms.getD 0 noS∈nms:=(G1 (show 0 < nms.length from NN.l1)).1
  have n0l:=NN.len _ n0m
  have sz:=sizeLine_eq
  refine ⟨_,(A8 (E3 (PW.pt (Xu (C5 N6 (B8 D9 (pv 2) A9) A9 (D0 _)) (Qw (C5 N6 (D7 (E4 (K:=K) rfl) (by rfl) zlen PySem.boot_len (A0 (pv 1) A7)) A9 (D0 _))))) (B0 (C2 (G3 (A0 (B8 C1 (B8 C1 B7 (C7 (C6 (K:=K) rfl) (D8 (A0 B7 (A0 B7 A7))) (B8 D9 (B8 E5 (pv 2) A9) A9) (fun _ _=>rfl))) (C7 (C6 (K:=K) rfl) (pv 0) (B8 D9 (B8 E5 (pv 2) A9) (D7 (E4 (K:=K) rfl) (by rfl) zlen PySem.boot_len (A0 (pv 0) A7))) (fun _ _=>rfl))) (A0 B7 A7))))) C9)
   (A8 (E3 (C5 N6 (B8 D9 (pv 2) A9) A9 (D0 _)) (B0 (C2 (C0 GXC hr3 rfl mXC kXC bXC .nil D1 (A0 (pv 0) (A0 (pv 1) (A0 (B8 E5 (pv 2) A9) A7)))))) C9)
   (A8 (E3 (C5 Jt (B8 D9 (pv 2) A9) A9 (D0 _)) (B0 (C2 (C0 GXS hr3 rfl mXS kXS bXS .nil D1 (A0 (pv 0) (A0 (pv 1) (A0 (B8 E5 (pv 2) A9) A7)))))) C9)
   (B0 (C2 (C0 GXR hr3 rfl mXR kXR bXR .nil D1 (A0 (pv 0) (A0 (pv 1) (A0 (B8 E5 (pv 2) A9) A7))))))))),?_⟩
  refine ⟨_,rfl,c,8,rfl,rfl,(by show 0 < 8; decide),c % 8,0,rfl,rfl,_,rfl,F7 (fun h0=>?_) (fun h0=>?_)⟩
  ·refine ⟨_,rfl,rl,_,rfl,.inl hrl,xs.length,12,rfl,rfl,_,rfl,F7 (fun h12=>?_) (fun h12=>?_)⟩
   ·have e12:xs.length=12:=Zj_ h12
    refine ⟨(by show 2<=sizeLine; decide),fun l1 hl1=>?_⟩
    have s1:=Same.new (o:=.lst [V.str (Str.ofString "settle "),V.str (Str.ofString "deal ")]) hl1
    have g1:(upd H l1 (.lst [V.str (Str.ofString "settle "),V.str (Str.ofString "deal ")])) l1=some (.lst [V.str (Str.ofString "settle "),V.str (Str.ofString "deal ")]):=A6
    generalize upd H l1 (.lst [V.str (Str.ofString "settle "),V.str (Str.ofString "deal ")])=H1 at s1 g1
    obtain ⟨st,est⟩:∃st:Bool,[V.str (Str.ofString "settle "),V.str (Str.ofString "deal ")][c / 8 % 2]? = some (V.str (D6 st++spaceS)):=by
     rcases Nat.mod_two_eq_zero_or_one (c / 8) with z | z
     ·exact ⟨true,by rw [z]; rfl⟩
     ·exact ⟨false,by rw [z]; rfl⟩
    have hi:c / 16 % nms.length < nms.length:=Nat.mod_lt _ NN.l1
    obtain ⟨wm,we⟩:=G1 hi
    have wl:=NN.len _ wm
    have wsl:(D6 st++spaceS).length<=7:=by cases st <;> decide
    refine ⟨_,rfl,c,8,rfl,rfl,(by show 0 < 8/\8 < 1073741824; decide),c / 8,2,rfl,rfl,(by show 0 < 2; decide),l1,_,_,_,rfl,rfl,SqL.of g1,B9 (j:=c / 8 % 2) (v:=V.str (D6 st++spaceS)) est,_,_,rfl,rfl,(by show 6 + (D6 st++spaceS).length<=sizeLine; omega),?_⟩
    refine ⟨_,rfl,_,rfl,c,16,rfl,rfl,(by show 0 < 16/\16 < 1073741824; decide),_,rfl,np,_,rfl,.inl (s1.seq hn),c / 16,(nms.map V.str).length,rfl,rfl,(by rw [ln]; exact NN.l1),?_⟩
    rw [ln]
    refine ⟨np,_,_,_,rfl,rfl,s1.seq hn,B9 (j:=c / 16 % nms.length) (v:=V.str (nms.getD (c / 16 % nms.length) noS)) (by rw [Θg,we]; rfl),_,_,rfl,rfl,(by rw [Str.length_append]; show 6 + (D6 st++spaceS).length + _<=sizeLine; omega),(by show 2<=sizeLine; decide),fun t ht=>?_⟩
    have h:=Xw NN wm st
    rw [<-e12,show Str.join spaceS [Jk,dashS,D6 st,nms.getD (c / 16 % nms.length) noS]=Str.ofString "let - "++(D6 st++spaceS)++nms.getD (c / 16 % nms.length) noS by (show Jk++spaceS++(dashS++spaceS++(D6 st++spaceS++nms.getD (c / 16 % nms.length) noS))=_); simp only [<-Str.append_assoc]; rfl] at h
    exact q t _ .many _ (s1.trans (Same.new ht)) (.inr ⟨_,rfl,h⟩) A6
   ·refine ⟨_,rfl,c,8,rfl,rfl,(by show 0 < 8; decide),c % 8,1,rfl,rfl,_,rfl,F7 (fun h1=>?_) (fun h1=>?_)⟩
    ·exact ⟨_,rfl,_,rfl,_,rfl,c,8,rfl,rfl,(by show 0 < 8/\8 < 1073741824; decide),np,rl,nms,xs,c / 8,rfl,hn,NN,l4,hrl,l12,q⟩
    ·refine ⟨_,rfl,c,8,rfl,rfl,(by show 0 < 8; decide),c % 8,5,rfl,rfl,_,rfl,F7 (fun h2=>?_) (fun h2=>?_)⟩
     ·exact ⟨_,rfl,_,rfl,_,rfl,c,8,rfl,rfl,(by show 0 < 8/\8 < 1073741824; decide),np,rl,nms,xs,c / 8,rfl,hn,NN,l4,hrl,l12,q⟩
     ·exact ⟨_,rfl,_,rfl,_,rfl,c,8,rfl,rfl,(by show 0 < 8/\8 < 1073741824; decide),np,rl,nms,xs,c / 8,rfl,hn,NN,l4,hrl,l12,q⟩
  ·refine ⟨_,rfl,c,8,rfl,rfl,(by show 0 < 8; decide),c % 8,1,rfl,rfl,_,rfl,F7 (fun h1=>?_) (fun h1=>?_)⟩
   ·exact ⟨_,rfl,_,rfl,_,rfl,c,8,rfl,rfl,(by show 0 < 8/\8 < 1073741824; decide),np,rl,nms,xs,c / 8,rfl,hn,NN,l4,hrl,l12,q⟩
   ·refine ⟨_,rfl,c,8,rfl,rfl,(by show 0 < 8; decide),c % 8,5,rfl,rfl,_,rfl,F7 (fun h2=>?_) (fun h2=>?_)⟩
    ·exact ⟨_,rfl,_,rfl,_,rfl,c,8,rfl,rfl,(by show 0 < 8/\8 < 1073741824; decide),np,rl,nms,xs,c / 8,rfl,hn,NN,l4,hrl,l12,q⟩
    ·exact ⟨_,rfl,_,rfl,_,rfl,c,8,rfl,rfl,(by show 0 < 8/\8 < 1073741824; decide),np,rl,nms,xs,c / 8,rfl,hn,NN,l4,hrl,l12,q⟩
end
end Own
namespace Own
open PySem L2
noncomputable def Lb (a b c d:Addr):Kd->Addr
 | .row=>a
 | .set=>b
 | .cut=>c
 | .many=>d
structure Df (K:Θf) (mg:Str->Option Value) (x:Str) (st:Stmt) (f:Addr) (ps:List Str) (fd:FuncData):Prop where
 F:Fun K x x st f fd
 m:mg x=some (.ref f)
 k:Θk K f
 b:Binds K fd ps []
theorem df_mk {K:Θf} {h:Heap} {mg:Str->Option Value} {x:Str} {st:Stmt} {f:Addr} {ps:List Str} {oc:Value} {od an:Option Addr} {osl:Array (Option Value)} {kV doc pm cdv ct:Value} (X:K.In h) (G:h.Ns mainGlobals mg)
  (a:PySem.W.nsIn K mainGlobals x=some (some (.ref f))) (l:K.lookup f=some ⟨oc,od,.func (PySem.W.fnOf x x (K3 st) (G0 st) (B6 st) .none kV doc pm an cdv ct),osl⟩) (c:PySem.W.codeIn K cdv x=true) (k:PySem.W.keepIn K (.ref f)=true)
  (b:∀kV doc pm an cdv ct (us:List Value),us.length=ps.length->bindArgs (PySem.W.fnOf x x (K3 st) (G0 st) (B6 st) .none kV doc pm an cdv ct) ⟨us,[]⟩=pure (ps.zip us)):∃fd,Df K mg x st f ps fd:=
 ⟨_,Bz l c k,PySem.W.mg_of X G a,k,(Bz (st:=st) l c k).binds b⟩
theorem v1 {us:List Value}:us.length=1->∃a,us=[a]:=fun h=>match us,h with | [a],_=>⟨a,rfl⟩
theorem v2 {us:List Value}:us.length=2->∃a b,us=[a,b]:=fun h=>match us,h with | [a,b],_=>⟨a,b,rfl⟩
theorem v3 {us:List Value}:us.length=3->∃a b c,us=[a,b,c]:=fun h=>match us,h with | [a,b,c],_=>⟨a,b,c,rfl⟩
theorem v4 {us:List Value}:us.length=4->∃a b c d,us=[a,b,c,d]:=fun h=>match us,h with | [a,b,c,d],_=>⟨a,b,c,d,rfl⟩

theorem all_mk {l:PySem.W.OpenLaw} {w:World} {K:PySem.W.Frag} {h:Heap} {mg:Str→Option Value} {fa:Addr} (X:K.In h) (G:h.Ns mainGlobals mg) (hfa:mg "law" = some (.ref fa))
  (dH:∃fd,Df K mg "has_column" Adu fH ["some","column"] fd)
  (dC:∃fd,Df K mg "columns_of" Ra fC ["some"] fd)
  (dAL:∃fd,Df K mg "all_of" Adq fAL ["many"] fd)
  (dIW:∃fd,Df K mg "is_within" Kl fIW ["one","other"] fd)
  (dMO:∃fd,Df K mg "with_one_more" Rb fMO ["sets","some"] fd)
  (dSW:∃fd,Df K mg "sets_within" Pd fSW ["some"] fd)
  (dCU:∃fd,Df K mg "can_use" Ka fCU ["rule","block"] fd)
  (dI:∃fd,Df K mg "listed" Kf fI ["block"] fd)
  (dUD:∃fd,Df K mg "used" Yj fUD ["rule","fixed","blocks","at"] fd)
  (dBG:∃fd,Df K mg "begun" Ot fBG ["many","some"] fd)
  (dFU:∃fd,Df K mg "first_use" Ow fFU ["rules","blocks"] fd)
  (dUN:∃fd,Df K mg "unfolded" Adx fUN ["many","rules","some"] fd)
  (dBR:∃fd,Df K mg "first_breaking" Adr fBR ["rule","blocks"] fd)
  (dFO:∃fd,Df K mg "follows" Adt fFO ["many","rules","rule"] fd)
  (dDF:∃fd,Df K mg "does_follow" Yd fDF ["many","rules","rule"] fd)
  (dSL:∃fd,Df K mg "settled" Fp fSL ["many","rules","some"] fd)
  (dSG:∃fd,Df K mg "single_rules" V1 fSG ["rules"] fd)
  (dLE:∃fd,Df K mg "with_least_lefts" Oz fLE ["many","rules"] fd)
  (dNE:∃fd,Df K mg "without_needless" Yf fNE ["many","rules"] fd)
  (dCV:∃fd,Df K mg "cover" Ou fCV ["many","rules"] fd)
  (dCI:∃fd,Df K mg "cut_in_two" Ov fCI ["many","rules","one","other"] fd)
  (dHO:∃fd,Df K mg "holds_one" Y6 fHO ["some","found"] fd)
  (dKY:∃fd,Df K mg "keys" Ye fKY ["many","rules"] fd)
  (dISN:∃fd,Df K mg "is_name" Ea fISN ["word"] fd)
  (dAN:∃fd,Df K mg "are_names" Y5 fAN ["words"] fd)
  (dSN:∃fd,Df K mg "set_named" Yh fSN ["names","words"] fd)
  (dNI:∃fd,Df K mg "names_in" Bm fNI ["names","some"] fd)
  (dFR:∃fd,Df K mg "first_rule_word" Ads fFR ["words"] fd)
  (dRN:∃fd,Df K mg "read_names" Ae fRN ["line"] fd)
  (dRR:∃fd,Df K mg "read_rule" Cn fRR ["names","line"] fd)
  (dRE:∃fd,Df K mg "read" Yg fRE ["text"] fd)
  (dSR:∃fd,Df K mg "show_rule" Co fSR ["names","rule"] fd)
  (dSH:∃fd,Df K mg "shown" Kk fSH ["names","rules"] fd)
  (dSS:∃fd,Df K mg "show_set" Fq fSS ["names","some"] fd)
  (dRS:∃fd,Df K mg "read_set" Fn fRS ["names","text"] fd)
  (dHF:∃fd,Df K mg "has_form" Bl fHF ["words","form"] fd)
  (dFM:∃fd,Df K mg "form_of" Kc fFM ["words"] fd)
  (dWO:∃fd,Df K mg "words_of" Fr fWO ["row"] fd)
  (dST:∃fd,Df K mg "show_sets" Y7 fST ["names","sets"] fd)
  (dSC:∃fd,Df K mg "show_cover" Bn fSC ["names","rules"] fd)
  (dPA:∃fd,Df K mg "show_paper" Kj fPA ["names","paper"] fd)
  (dTO:∃fd,Df K mg "show_told" Yi fTO ["names","told","good"] fd)
  (dAW:∃fd,Df K mg "answer" Jz fAW ["names","rules","words","sets"] fd)
  (dCA:∃fd,Df K mg "_law_cell_at" Kb fCA ["_law_script","_law_k"] fd)
  (dNA:∃fd,Df K mg "_law_names" Fm fNA ["_law_cell","_law_count"] fd)
  (dRU:∃fd,Df K mg "_law_rule" Kg fRU ["_law_cell","_law_many"] fd)
  (dLR:∃fd,Df K mg "_law_rules" Eb fLR ["_law_script","_law_many"] fd)
  (dTB:∃fd,Df K mg "_law_table" Pe fTB ["_law_script","_law_most"] fd)
  (dIX:∃fd,Df K mg "_law_in" sIn fIX ["_law_names_here","_law_some"] fd)
  (dLL:∃fd,Df K mg "_law_line" Oy fLL ["_law_names_here","_law_rule_here"] fd)
  (dLT:∃fd,Df K mg "_law_text" Ke fLT ["_law_names_here","_law_rules_here"] fd)
  (dSE:∃fd,Df K mg "_law_set" Adw fSE ["_law_names_here","_law_some"] fd)
  (dXR:∃fd,Df K mg "_law_no_row" Pb fXR ["_law_names_here","_law_rules_here","_law_cell"] fd)
  (dXS:∃fd,Df K mg "_law_no_set" Ki fXS ["_law_names_here","_law_rules_here","_law_cell"] fd)
  (dXC:∃fd,Df K mg "_law_no_cut" Pa fXC ["_law_names_here","_law_rules_here","_law_cell"] fd)
  (dRO:∃fd,Df K mg "_law_row" Adv fRO ["_law_names_here","_law_rules_here","_law_cell"] fd)
  (dKI:∃fd,Df K mg "_law_kinds" Ox fKI ["_law_error"] fd)
  (dRF:∃fd,Df K mg "_law_refused" Fo fRF ["_law_desk","_law_row_here","_law_due"] fd)
  (dND:∃fd,Df K mg "_law_no_desk" Kh fND ["_law_names_here","_law_text_here","_law_cell"] fd)
  (dQ:∃fd,Df K mg "law" Ub fQ ["_law_script"] fd)
  {tkLN:Tok} (aLN:PySem.W.nsIn K mainGlobals "LONGEST_NAME" = some (some (.int 8 tkLN))) {tkMC:Tok} (aMC:PySem.W.nsIn K mainGlobals "MOST_COLUMNS" = some (some (.int 7 tkMC))) {tkMR:Tok} (aMR:PySem.W.nsIn K mainGlobals "MOST_RULES" = some (some (.int 12 tkMR)))
  {CNR CST CCN CTM CTX CZE RWA FA CD aDT fNT fDI fSY fLM fDM NTX fF0 fF1 fF2 fF3 fF4 fF5 fF6 fF7 fF8 fF9 fF10 fF11:Addr} (yqNR:PySem.W.nsIn K mainGlobals "NoRow" = some (some (.ref CNR))) (yqST:PySem.W.nsIn K mainGlobals "NoSet" = some (some (.ref CST))) (yqCN:PySem.W.nsIn K mainGlobals "NoCut" = some (some (.ref CCN))) (yqTM:PySem.W.nsIn K mainGlobals "TooMany" = some (some (.ref CTM))) (yqTX:PySem.W.nsIn K mainGlobals "NoText" = some (some (.ref CTX))) (yqZE:PySem.W.nsIn K mainGlobals "SplitError" = some (some (.ref CZE))) (yeNR:PySem.W.excIn K CNR [.type "ValueError",.type "Exception",.type "BaseException",.type "object"] "ValueError.__new__" = true) (yeST:PySem.W.excIn K CST [.type "ValueError",.type "Exception",.type "BaseException",.type "object"] "ValueError.__new__" = true) (yeCN:PySem.W.excIn K CCN [.type "ValueError",.type "Exception",.type "BaseException",.type "object"] "ValueError.__new__" = true) (yeTM:PySem.W.excIn K CTM [.type "ValueError",.type "Exception",.type "BaseException",.type "object"] "ValueError.__new__" = true) (yeZE:PySem.W.excIn K CZE [.type "ValueError",.type "Exception",.type "BaseException",.type "object"] "ValueError.__new__" = true) (gO:PySem.W.specialIn K (.builtin "object.__class__") "__get__" = some (some (.builtin "getset_descriptor.__get__"))) (tO:PySem.W.takesIn K (.builtin "object.__class__")=some true) (ypNR:PySem.W.findIn K (.ref CNR) "__getattribute__" = some (some (.builtin "BaseException.__getattribute__"))) (ynNR:PySem.W.findIn K (.ref CNR) "__getattr__" = some none) (ysNR:PySem.W.subIn K (.ref CNR) (.type "BaseException")=some true) (yhNR:PySem.W.hasDictIn K CNR=true) (yfNR:PySem.W.findIn K (.ref CNR) "__class__" = some (some (.builtin "object.__class__"))) (yrNR:PySem.W.mroIn K CNR (.type "object")=some true) (ypST:PySem.W.findIn K (.ref CST) "__getattribute__" = some (some (.builtin "BaseException.__getattribute__"))) (ynST:PySem.W.findIn K (.ref CST) "__getattr__" = some none) (ysST:PySem.W.subIn K (.ref CST) (.type "BaseException")=some true) (yhST:PySem.W.hasDictIn K CST=true) (yfST:PySem.W.findIn K (.ref CST) "__class__" = some (some (.builtin "object.__class__"))) (yrST:PySem.W.mroIn K CST (.type "object")=some true) (ypCN:PySem.W.findIn K (.ref CCN) "__getattribute__" = some (some (.builtin "BaseException.__getattribute__"))) (ynCN:PySem.W.findIn K (.ref CCN) "__getattr__" = some none) (ysCN:PySem.W.subIn K (.ref CCN) (.type "BaseException")=some true) (yhCN:PySem.W.hasDictIn K CCN=true) (yfCN:PySem.W.findIn K (.ref CCN) "__class__" = some (some (.builtin "object.__class__"))) (yrCN:PySem.W.mroIn K CCN (.type "object")=some true) (ypTM:PySem.W.findIn K (.ref CTM) "__getattribute__" = some (some (.builtin "BaseException.__getattribute__"))) (ynTM:PySem.W.findIn K (.ref CTM) "__getattr__" = some none) (ysTM:PySem.W.subIn K (.ref CTM) (.type "BaseException")=some true) (yhTM:PySem.W.hasDictIn K CTM=true) (yfTM:PySem.W.findIn K (.ref CTM) "__class__" = some (some (.builtin "object.__class__"))) (yrTM:PySem.W.mroIn K CTM (.type "object")=some true) (ypTX:PySem.W.findIn K (.ref CTX) "__getattribute__" = some (some (.builtin "BaseException.__getattribute__"))) (ynTX:PySem.W.findIn K (.ref CTX) "__getattr__" = some none) (ysTX:PySem.W.subIn K (.ref CTX) (.type "BaseException")=some true) (yhTX:PySem.W.hasDictIn K CTX=true) (yfTX:PySem.W.findIn K (.ref CTX) "__class__" = some (some (.builtin "object.__class__"))) (yrTX:PySem.W.mroIn K CTX (.type "object")=some true) (yxNR:PySem.W.exmOne K (.ref CNR) (.ref CZE)=some true) (yvNR:PySem.W.kitOne K (.ref CNR) (.type "ValueError")=some true) (ywNR:PySem.W.kitOne K (.ref CNR) (.ref CTX)=some false) (yoNRNR:PySem.W.kitOne K (.ref CNR) (.ref CNR)=some true) (yoNRST:PySem.W.kitOne K (.ref CNR) (.ref CST)=some false) (yoNRCN:PySem.W.kitOne K (.ref CNR) (.ref CCN)=some false) (yoNRTM:PySem.W.kitOne K (.ref CNR) (.ref CTM)=some false) (yxST:PySem.W.exmOne K (.ref CST) (.ref CZE)=some true) (yvST:PySem.W.kitOne K (.ref CST) (.type "ValueError")=some true) (ywST:PySem.W.kitOne K (.ref CST) (.ref CTX)=some false) (yoSTNR:PySem.W.kitOne K (.ref CST) (.ref CNR)=some false) (yoSTST:PySem.W.kitOne K (.ref CST) (.ref CST)=some true) (yoSTCN:PySem.W.kitOne K (.ref CST) (.ref CCN)=some false) (yoSTTM:PySem.W.kitOne K (.ref CST) (.ref CTM)=some false) (yxCN:PySem.W.exmOne K (.ref CCN) (.ref CZE)=some true) (yvCN:PySem.W.kitOne K (.ref CCN) (.type "ValueError")=some true) (ywCN:PySem.W.kitOne K (.ref CCN) (.ref CTX)=some false) (yoCNNR:PySem.W.kitOne K (.ref CCN) (.ref CNR)=some false) (yoCNST:PySem.W.kitOne K (.ref CCN) (.ref CST)=some false) (yoCNCN:PySem.W.kitOne K (.ref CCN) (.ref CCN)=some true) (yoCNTM:PySem.W.kitOne K (.ref CCN) (.ref CTM)=some false) (yxTM:PySem.W.exmOne K (.ref CTM) (.ref CZE)=some true) (yvTM:PySem.W.kitOne K (.ref CTM) (.type "ValueError")=some true) (ywTM:PySem.W.kitOne K (.ref CTM) (.ref CTX)=some false) (yoTMNR:PySem.W.kitOne K (.ref CTM) (.ref CNR)=some false) (yoTMST:PySem.W.kitOne K (.ref CTM) (.ref CST)=some false) (yoTMCN:PySem.W.kitOne K (.ref CTM) (.ref CCN)=some false) (yoTMTM:PySem.W.kitOne K (.ref CTM) (.ref CTM)=some true) (xTX:PySem.W.exmOne K (.ref CTX) (.ref CTX)=some true) (lTX:K.lookup CTX=some (excClassObj nmTX qnTX CTX NTX bsTX (.ref CZE :: VEB) true snTX sbTX abTX coTX ddTX k0TX k1TX k2TX k3TX k5TX "ValueError.__new__")) (owTX:PySem.W.subIn K (.ref CTX) (.ref CTX)=some true) (fiTX:PySem.W.findIn K (.ref CTX) "__init__" = some (some (.ref fNT))) (fnTX:PySem.W.isFn K (.ref fNT)=true) (saTX:PySem.W.findIn K (.ref CTX) "__setattr__" = some (some (.builtin "object.__setattr__"))) (nlTX:PySem.W.findIn K (.ref CTX) "line" = some none) (rdTX:PySem.W.readsIn K CZE (.type "type")=true) (ciTX:PySem.W.findCls K (.ref CZE) (.type "type") "__init__" = some (.val (.builtin "ValueError.__init__"))) (gaTX:PySem.W.specialIn K (.ref CZE) "__getattribute__" = some (some (.builtin "type.__getattribute__"))) (kpTX:PySem.W.keepIn K (.ref CTX)=true) (lNT:K.lookup fNT=some ⟨ocNT,odNT,.func (PySem.W.fnOf "__init__" "NoText.__init__" (K3 O8) (G0 O8) (B6 O8) (.ref aDT) kVNT dcNT pmNT anNT cdNT ctNT),slNT⟩) (lDT:K.lookup aDT=some ⟨ocDT,odDT,.seq #[.int 0 tDT] nDT,slDT⟩) (cNT:PySem.W.codeIn K cdNT "NoText.__init__" = true) (aLE:PySem.W.nsIn K mainGlobals "LETTERS" = some (some (.str "abcdefghijklmnopqrstuvwxyz" tkLE))) (aRWW:PySem.W.nsIn K mainGlobals "RULE_WORDS" = some (some (.ref RWA))) (lRWW:K.lookup RWA=some ⟨.type "tuple",odRW,.seq #[.str "settle" taRW,.str "deal" tbRW] nRW,slRW⟩) (aFM:PySem.W.nsIn K mainGlobals "FORMS" = some (some (.ref FA))) (lFM:K.lookup FA=some ⟨.type "tuple",odFM,.seq #[.ref fF0,.ref fF1,.ref fF2,.ref fF3,.ref fF4,.ref fF5,.ref fF6,.ref fF7,.ref fF8,.ref fF9,.ref fF10,.ref fF11] nFM,slFM⟩) (lF0:K.lookup fF0=some ⟨.type "tuple",odF0,.seq #[.str "show" tF0a] nF0,slF0⟩) (lF1:K.lookup fF1=some ⟨.type "tuple",odF1,.seq #[.str "follows" tF1a,.str "SET" tF1b,.str "settle" tF1c,.str "SET" tF1d] nF1,slF1⟩) (lF2:K.lookup fF2=some ⟨.type "tuple",odF2,.seq #[.str "follows" tF2a,.str "SET" tF2b,.str "deal" tF2c,.str "SET" tF2d] nF2,slF2⟩) (lF3:K.lookup fF3=some ⟨.type "tuple",odF3,.seq #[.str "keys" tF3a] nF3,slF3⟩) (lF4:K.lookup fF4=some ⟨.type "tuple",odF4,.seq #[.str "cover" tF4a] nF4,slF4⟩) (lF5:K.lookup fF5=some ⟨.type "tuple",odF5,.seq #[.str "cut" tF5a,.str "SET" tF5b,.str "SET" tF5c] nF5,slF5⟩) (lF6:K.lookup fF6=some ⟨.type "tuple",odF6,.seq #[.str "tree" tF6a] nF6,slF6⟩) (lF7:K.lookup fF7=some ⟨.type "tuple",odF7,.seq #[.str "parts" tF7a] nF7,slF7⟩) (lF8:K.lookup fF8=some ⟨.type "tuple",odF8,.seq #[.str "part" tF8a,.str "SET" tF8b,.str "settle" tF8c,.str "SET" tF8d] nF8,slF8⟩) (lF9:K.lookup fF9=some ⟨.type "tuple",odF9,.seq #[.str "let" tF9a,.str "SET" tF9b,.str "settle" tF9c,.str "SET" tF9d] nF9,slF9⟩) (lF10:K.lookup fF10=some ⟨.type "tuple",odF10,.seq #[.str "let" tF10a,.str "SET" tF10b,.str "deal" tF10c,.str "SET" tF10d] nF10,slF10⟩) (lF11:K.lookup fF11=some ⟨.type "tuple",odF11,.seq #[.str "drop" tF11a,.str "NUMBER" tF11b] nF11,slF11⟩) (aDK:PySem.W.nsIn K mainGlobals "Desk" = some (some (.ref CD))) (pgD:PySem.W.plainGet K CD Str.empty=true) (hdD:PySem.W.hasDictIn K CD=true) (poD:PySem.W.plainOver K CD=true) (saD:PySem.W.findIn K (.ref CD) "__setattr__" = some (some (.builtin "object.__setattr__"))) (mkD:PySem.W.makesIn K CD=true) (kcD:PySem.W.keepIn K (.ref CD)=true) (nND:PySem.W.findIn K (.ref CD) "names" = some none) (nRD:PySem.W.findIn K (.ref CD) "rules" = some none) (aDI:PySem.W.findIn K (.ref CD) "__init__" = some (some (.ref fDI))) (iDI:PySem.W.isFn K (.ref fDI)=true) (lDI:K.lookup fDI=some ⟨ocDI,odDI,.func (PySem.W.fnOf "__init__" "Desk.__init__" (K3 Cm) (G0 Cm) (B6 Cm) .none kVDI dcDI pmDI anDI cdDI ctDI),slDI⟩) (cDI:PySem.W.codeIn K cdDI "Desk.__init__" = true) (kDI:PySem.W.keepIn K (.ref fDI)=true) (aSY:PySem.W.findIn K (.ref CD) "say" = some (some (.ref fSY))) (iSY:PySem.W.isFn K (.ref fSY)=true) (lSY:K.lookup fSY=some ⟨ocSY,odSY,.func (PySem.W.fnOf "say" "Desk.say" (K3 Pc) (G0 Pc) (B6 Pc) .none kVSY dcSY pmSY anSY cdSY ctSY),slSY⟩) (cSY:PySem.W.codeIn K cdSY "Desk.say" = true) (kSY:PySem.W.keepIn K (.ref fSY)=true) (aLM:PySem.W.findIn K (.ref CD) "let" = some (some (.ref fLM))) (iLM:PySem.W.isFn K (.ref fLM)=true) (lLM:K.lookup fLM=some ⟨ocLM,odLM,.func (PySem.W.fnOf "let" "Desk.let" (K3 Hz) (G0 Hz) (B6 Hz) .none kVLM dcLM pmLM anLM cdLM ctLM),slLM⟩) (cLM:PySem.W.codeIn K cdLM "Desk.let" = true) (kLM:PySem.W.keepIn K (.ref fLM)=true) (aDM:PySem.W.findIn K (.ref CD) "drop" = some (some (.ref fDM))) (iDM:PySem.W.isFn K (.ref fDM)=true) (lDM:K.lookup fDM=some ⟨ocDM,odDM,.func (PySem.W.fnOf "drop" "Desk.drop" (K3 Ad) (G0 Ad) (B6 Ad) .none kVDM dcDM pmDM anDM cdDM ctDM),slDM⟩) (cDM:PySem.W.codeIn K cdDM "Desk.drop" = true) (kDM:PySem.W.keepIn K (.ref fDM)=true)
  (zlen:mg "len" = none) (zrange:mg "range" = none) (zenumerate:mg "enumerate" = none) (zlist:mg "list" = none) (zint:mg "int" = none) (zisinstance:mg "isinstance" = none) (zstr:mg "str" = none) (zsorted:mg "sorted" = none) (zany:mg "any" = none) (zall:mg "all" = none) (zset:mg "set" = none) (zzip:mg "zip" = none) (zValueError:mg "ValueError" = none) :
  ∃fd:FuncData,(∀(s:Shared) (v:Value),BindsTo s fd ⟨[v],[]⟩ [("_law_script",v)])∧∀base:Heap,K.In base→base.Ns mainGlobals mg→FnOk l.prog w K mg base CX0 12 fa fd ["_law_script"] (Rm K):=by
 obtain ⟨fdH,FH,mH,kH,bH⟩:=dH
 obtain ⟨fdC,FC,mC,kC,bC⟩:=dC
 obtain ⟨fdAL,FAL,mAL,kAL,bAL⟩:=dAL
 obtain ⟨fdIW,FIW,mIW,kIW,bIW⟩:=dIW
 obtain ⟨fdMO,FMO,mMO,kMO,bMO⟩:=dMO
 obtain ⟨fdSW,FSW,mSW,kSW,bSW⟩:=dSW
 obtain ⟨fdCU,FCU,mCU,kCU,bCU⟩:=dCU
 obtain ⟨fdI,FI,mI,kI,bI⟩:=dI
 obtain ⟨fdUD,FUD,mUD,kUD,bUD⟩:=dUD
 obtain ⟨fdBG,FBG,mBG,kBG,bBG⟩:=dBG
 obtain ⟨fdFU,FFU,mFU,kFU,bFU⟩:=dFU
 obtain ⟨fdUN,FUN,mUN,kUN,bUN⟩:=dUN
 obtain ⟨fdBR,FBR,mBR,kBR,bBR⟩:=dBR
 obtain ⟨fdFO,FFO,mFO,kFO,bFO⟩:=dFO
 obtain ⟨fdDF,FDF,mDF,kDF,bDF⟩:=dDF
 obtain ⟨fdSL,FSL,mSL,kSL,bSL⟩:=dSL
 obtain ⟨fdSG,FSG,mSG,kSG,bSG⟩:=dSG
 obtain ⟨fdLE,FLE,mLE,kLE,bLE⟩:=dLE
 obtain ⟨fdNE,FNE,mNE,kNE,bNE⟩:=dNE
 obtain ⟨fdCV,FCV,mCV,kCV,bCV⟩:=dCV
 obtain ⟨fdCI,FCI,mCI,kCI,bCI⟩:=dCI
 obtain ⟨fdHO,FHO,mHO,kHO,bHO⟩:=dHO
 obtain ⟨fdKY,FKY,mKY,kKY,bKY⟩:=dKY
 obtain ⟨fdISN,FISN,mISN,kISN,bISN⟩:=dISN
 obtain ⟨fdAN,FAN,mAN,kAN,bAN⟩:=dAN
 obtain ⟨fdSN,FSN,mSN,kSN,bSN⟩:=dSN
 obtain ⟨fdNI,FNI,mNI,kNI,bNI⟩:=dNI
 obtain ⟨fdFR,FFR,mFR,kFR,bFR⟩:=dFR
 obtain ⟨fdRN,FRN,mRN,kRN,bRN⟩:=dRN
 obtain ⟨fdRR,FRR,mRR,kRR,bRR⟩:=dRR
 obtain ⟨fdRE,FRE,mRE,kRE,bRE⟩:=dRE
 obtain ⟨fdSR,FSR,mSR,kSR,bSR⟩:=dSR
 obtain ⟨fdSH,FSH,mSH,kSH,bSH⟩:=dSH
 obtain ⟨fdSS,FSS,mSS,kSS,bSS⟩:=dSS
 obtain ⟨fdRS,FRS,mRS,kRS,bRS⟩:=dRS
 obtain ⟨fdHF,FHF,mHF,kHF,bHF⟩:=dHF
 obtain ⟨fdFM,FFM,mFM,kFM,bFM⟩:=dFM
 obtain ⟨fdWO,FWO,mWO,kWO,bWO⟩:=dWO
 obtain ⟨fdST,FST,mST,kST,bST⟩:=dST
 obtain ⟨fdSC,FSC,mSC,kSC,bSC⟩:=dSC
 obtain ⟨fdPA,FPA,mPA,kPA,bPA⟩:=dPA
 obtain ⟨fdTO,FTO,mTO,kTO,bTO⟩:=dTO
 obtain ⟨fdAW,FAW,mAW,kAW,bAW⟩:=dAW
 obtain ⟨fdCA,FCA,mCA,kCA,bCA⟩:=dCA
 obtain ⟨fdNA,FNA,mNA,kNA,bNA⟩:=dNA
 obtain ⟨fdRU,FRU,mRU,kRU,bRU⟩:=dRU
 obtain ⟨fdLR,FLR,mLR,kLR,bLR⟩:=dLR
 obtain ⟨fdTB,FTB,mTB,kTB,bTB⟩:=dTB
 obtain ⟨fdIX,FIX,mIX,kIX,bIX⟩:=dIX
 obtain ⟨fdLL,FLL,mLL,kLL,bLL⟩:=dLL
 obtain ⟨fdLT,FLT,mLT,kLT,bLT⟩:=dLT
 obtain ⟨fdSE,FSE,mSE,kSE,bSE⟩:=dSE
 obtain ⟨fdXR,FXR,mXR,kXR,bXR⟩:=dXR
 obtain ⟨fdXS,FXS,mXS,kXS,bXS⟩:=dXS
 obtain ⟨fdXC,FXC,mXC,kXC,bXC⟩:=dXC
 obtain ⟨fdRO,FRO,mRO,kRO,bRO⟩:=dRO
 obtain ⟨fdKI,FKI,mKI,kKI,bKI⟩:=dKI
 obtain ⟨fdRF,FRF,mRF,kRF,bRF⟩:=dRF
 obtain ⟨fdND,FND,mND,kND,bND⟩:=dND
 obtain ⟨fdQ,FQ,mQ,kQ,bQ⟩:=dQ
 have e:=hfa.symm.trans mQ
 cases e
 have mLN:=PySem.W.mg_of X G aLN
 have mMC:=PySem.W.mg_of X G aMC
 have mMR:=PySem.W.mg_of X G aMR
 obtain ⟨_,_,kV,doc,pm,an,cdv,ct,_,rfl,_,_⟩:=id FQ.ex
 refine ⟨PySem.W.fnOf "law" "law" (K3 Ub) (G0 Ub) (B6 Ub) .none kV doc pm an cdv ct,fun s v=>.of_eq rfl,fun base _ _=>?_⟩
 have mLET:=PySem.W.mg_of X G aLE
 have mRWW:=PySem.W.mg_of X G aRWW
 have mFMS:=PySem.W.mg_of X G aFM
 have mDK:=PySem.W.mg_of X G aDK
 have mTX:=PySem.W.mg_of X G yqTX
 have mZE:=PySem.W.mg_of X G yqZE
 have mKrow:=PySem.W.mg_of X G yqNR
 have mKset:=PySem.W.mg_of X G yqST
 have mKcut:=PySem.W.mg_of X G yqCN
 have mKmany:=PySem.W.mg_of X G yqTM
 have hRW:RWT K RWA:=fun H=>.inr ⟨_,#[.str "settle" taRW,.str "deal" tbRW],_,lRWW,rfl,rfl,(by show 2≤sizeLine; decide),.cons ⟨_,rfl⟩ (.cons ⟨_,rfl⟩ .nil)⟩
 have fone:∀(k:Nat) (f:Addr) (fs:List Str),[fF0,fF1,fF2,fF3,fF4,fF5,fF6,fF7,fF8,fF9,fF10,fF11][k]? = some f→formsL[k]? = some fs→∀H:Hp,SqT K H f (fs.map V.str):=fun k f fs h1 h2 H=>by
  match k,h1,h2 with
  | 0,h1,h2=>cases h1; cases h2; exact .inr ⟨_,#[.str "show" tF0a],_,lF0,rfl,rfl,(by show 1≤sizeLine; decide),(.cons ⟨_,rfl⟩ .nil)⟩
  | 1,h1,h2=>cases h1; cases h2; exact .inr ⟨_,#[.str "follows" tF1a,.str "SET" tF1b,.str "settle" tF1c,.str "SET" tF1d],_,lF1,rfl,rfl,(by show 4≤sizeLine; decide),(.cons ⟨_,rfl⟩ (.cons ⟨_,rfl⟩ (.cons ⟨_,rfl⟩ (.cons ⟨_,rfl⟩ .nil))))⟩
  | 2,h1,h2=>cases h1; cases h2; exact .inr ⟨_,#[.str "follows" tF2a,.str "SET" tF2b,.str "deal" tF2c,.str "SET" tF2d],_,lF2,rfl,rfl,(by show 4≤sizeLine; decide),(.cons ⟨_,rfl⟩ (.cons ⟨_,rfl⟩ (.cons ⟨_,rfl⟩ (.cons ⟨_,rfl⟩ .nil))))⟩
  | 3,h1,h2=>cases h1; cases h2; exact .inr ⟨_,#[.str "keys" tF3a],_,lF3,rfl,rfl,(by show 1≤sizeLine; decide),(.cons ⟨_,rfl⟩ .nil)⟩
  | 4,h1,h2=>cases h1; cases h2; exact .inr ⟨_,#[.str "cover" tF4a],_,lF4,rfl,rfl,(by show 1≤sizeLine; decide),(.cons ⟨_,rfl⟩ .nil)⟩
  | 5,h1,h2=>cases h1; cases h2; exact .inr ⟨_,#[.str "cut" tF5a,.str "SET" tF5b,.str "SET" tF5c],_,lF5,rfl,rfl,(by show 3≤sizeLine; decide),(.cons ⟨_,rfl⟩ (.cons ⟨_,rfl⟩ (.cons ⟨_,rfl⟩ .nil)))⟩
  | 6,h1,h2=>cases h1; cases h2; exact .inr ⟨_,#[.str "tree" tF6a],_,lF6,rfl,rfl,(by show 1≤sizeLine; decide),(.cons ⟨_,rfl⟩ .nil)⟩
  | 7,h1,h2=>cases h1; cases h2; exact .inr ⟨_,#[.str "parts" tF7a],_,lF7,rfl,rfl,(by show 1≤sizeLine; decide),(.cons ⟨_,rfl⟩ .nil)⟩
  | 8,h1,h2=>cases h1; cases h2; exact .inr ⟨_,#[.str "part" tF8a,.str "SET" tF8b,.str "settle" tF8c,.str "SET" tF8d],_,lF8,rfl,rfl,(by show 4≤sizeLine; decide),(.cons ⟨_,rfl⟩ (.cons ⟨_,rfl⟩ (.cons ⟨_,rfl⟩ (.cons ⟨_,rfl⟩ .nil))))⟩
  | 9,h1,h2=>cases h1; cases h2; exact .inr ⟨_,#[.str "let" tF9a,.str "SET" tF9b,.str "settle" tF9c,.str "SET" tF9d],_,lF9,rfl,rfl,(by show 4≤sizeLine; decide),(.cons ⟨_,rfl⟩ (.cons ⟨_,rfl⟩ (.cons ⟨_,rfl⟩ (.cons ⟨_,rfl⟩ .nil))))⟩
  | 10,h1,h2=>cases h1; cases h2; exact .inr ⟨_,#[.str "let" tF10a,.str "SET" tF10b,.str "deal" tF10c,.str "SET" tF10d],_,lF10,rfl,rfl,(by show 4≤sizeLine; decide),(.cons ⟨_,rfl⟩ (.cons ⟨_,rfl⟩ (.cons ⟨_,rfl⟩ (.cons ⟨_,rfl⟩ .nil))))⟩
  | 11,h1,h2=>cases h1; cases h2; exact .inr ⟨_,#[.str "drop" tF11a,.str "NUMBER" tF11b],_,lF11,rfl,rfl,(by show 2≤sizeLine; decide),(.cons ⟨_,rfl⟩ (.cons ⟨_,rfl⟩ .nil))⟩
  | n + 12,h1,h2=>cases h1
 have hFM:FMT K FA [fF0,fF1,fF2,fF3,fF4,fF5,fF6,fF7,fF8,fF9,fF10,fF11]:=⟨fun H=>.inr ⟨_,#[.ref fF0,.ref fF1,.ref fF2,.ref fF3,.ref fF4,.ref fF5,.ref fF6,.ref fF7,.ref fF8,.ref fF9,.ref fF10,.ref fF11],_,lFM,rfl,rfl,(by show 12≤sizeLine; decide),(.cons rfl (.cons rfl (.cons rfl (.cons rfl (.cons rfl (.cons rfl (.cons rfl (.cons rfl (.cons rfl (.cons rfl (.cons rfl (.cons rfl .nil))))))))))))⟩,rfl,fone⟩
 have ONR:Exc K "NoRow" CNR:=⟨yqNR,yeNR⟩
 have OST:Exc K "NoSet" CST:=⟨yqST,yeST⟩
 have OCN:Exc K "NoCut" CCN:=⟨yqCN,yeCN⟩
 have OTM:Exc K "TooMany" CTM:=⟨yqTM,yeTM⟩
 have INR:ExcI K CNR:=⟨ypNR,ynNR,ysNR,yhNR,yfNR,gO,tO,yrNR⟩
 have IST:ExcI K CST:=⟨ypST,ynST,ysST,yhST,yfST,gO,tO,yrST⟩
 have ICN:ExcI K CCN:=⟨ypCN,ynCN,ysCN,yhCN,yfCN,gO,tO,yrCN⟩
 have ITM:ExcI K CTM:=⟨ypTM,ynTM,ysTM,yhTM,yfTM,gO,tO,yrTM⟩
 have ITX:ExcI K CTX:=⟨ypTX,ynTX,ysTX,yhTX,yfTX,gO,tO,yrTX⟩
 have X4:Ex4 K (Lb CNR CST CCN CTM) CTX CZE:=⟨fun k=>by cases k <;> assumption,fun k=>by cases k <;> assumption,fun k j=>by cases k <;> cases j <;> assumption,fun k=>by cases k <;> assumption,fun k=>by cases k <;> assumption⟩
 have ZN:ExcN K "NoText" CTX CZE fNT:=⟨yqTX,⟨yqZE,yeZE⟩,⟨_,_,_,_,_,_,_,_,_,_,_,_,_,_,lTX⟩,ysTX,owTX,fiTX,fnTX,saTX,nlTX,rdTX,ciTX,gaTX,kpTX⟩
 have GX:ExcG K CTX:=⟨ITX,(by obtain ⟨cd,h1,_,h2⟩:=ZN.cls; exact ⟨cd,h1,h2⟩),nlTX⟩
 have T:DK K CD:=⟨⟨pgD,hdD,poD,saD⟩,nND,nRD⟩
 have FDI:=Bz (st:=Cm) lDI cDI kDI
 have FSY:=Bz (st:=Pc) lSY cSY kSY
 have bDI:=FDI.binds (ps:=["self","text"]) fun _ _ _ _ _ _ us hl=>by obtain ⟨_,_,rfl⟩:=v2 hl; rfl
 have FLM:=Bz (st:=Hz) lLM cLM kLM
 have bLM:=FLM.binds (ps:=["self","rule"]) fun _ _ _ _ _ _ us hl=>by obtain ⟨_,_,rfl⟩:=v2 hl; rfl
 have FDM:=Bz (st:=Ad) lDM cDM kDM
 have bDM:=FDM.binds (ps:=["self","word"]) fun _ _ _ _ _ _ us hl=>by obtain ⟨_,_,rfl⟩:=v2 hl; rfl
 have bSY:=FSY.binds (ps:=["self","row"]) fun _ _ _ _ _ _ us hl=>by obtain ⟨_,_,rfl⟩:=v2 hl; rfl
 have GNT:=Xd (P:=l.prog) (w:=w) (base:=base) lNT cNT ZN mZE
 have bNT:Binds K (PySem.W.fnOf "__init__" "NoText.__init__" (K3 O8) (G0 O8) (B6 O8) (.ref aDT) kVNT dcNT pmNT anNT cdNT ctNT) ["self","line"] []:=fun s us KX hl=>by rw [List.append_nil] at hl ⊢; obtain ⟨_,_,rfl⟩:=v2 hl; exact BindsTo.of_defaults rfl (KX _ _ lDT) rfl rfl rfl
 have GH:=Acz (P:=l.prog) (w:=w) (mg:=mg) (base:=base) FH
 have GC:=Aan FC GH mH kH bH zrange
 have GAL:=Acv (P:=l.prog) (w:=w) (mg:=mg) (base:=base) FAL
 have GIW:=Tn (P:=l.prog) (w:=w) (mg:=mg) (base:=base) FIW
 have GMO:=Aar FMO GC mC kC bC zsorted
 have GSW:=Xi FSW GMO mMO kMO bMO
 have GCU:=Te (P:=l.prog) (w:=w) (mg:=mg) (base:=base) FCU
 have GI:=Ti (P:=l.prog) (w:=w) (mg:=mg) (base:=base) FI
 have GUD:=Aaw FUD GI mI kI bI
 have GBG:=Ws FBG GI mI kI bI GAL mAL kAL bAL
 have GFU:=Wx FFU GCU mCU kCU bCU zenumerate
 have GUN:=Ac4 FUN GBG mBG kBG bBG GFU mFU kFU bFU GUD mUD kUD bUD
 have GBR:=Acw FBR GCU mCU kCU bCU
 have GFO:=Acx FFO GUN mUN kUN bUN GBR mBR kBR bBR
 have GFW:=GFO.imp Vo
 have GDF:=Aap FDF GFW mFO kFO bFO
 have GSL:=Oi FSL GUN mUN kUN bUN
 have GSG:=Tm FSG GC mC kC bC
 have GLE:=Wz FLE GDF mDF kDF bDF GC mC kC bC zlist zenumerate
 have GNE:=Aas FNE GDF mDF kDF bDF zlist zlen
 have GCV:=Wt FCV GNE mNE kNE bNE GLE mLE kLE bLE GSG mSG kSG bSG
 have GHO:=Md FHO GIW mIW kIW bIW zany
 have GKY:=Aaq FKY GAL mAL kAL bAL GSW mSW kSW bSW GHO mHO kHO bHO GSL mSL kSL bSL
 have GCI:=Wu FCI GIW mIW kIW bIW GAL mAL kAL bAL OCN
 have GISN:=Th (P:=l.prog) (w:=w) (base:=base) FISN mLN mLET mRWW hRW zlen zall
 have GAN:=Mc FAN GISN mISN kISN bISN mMC zlen zall zset
 have GSN:=Aau (P:=l.prog) (w:=w) (mg:=mg) (base:=base) FSN
 have GNI:=Oe FNI GC mC kC bC
 have GFR:=Acy (P:=l.prog) (w:=w) (base:=base) FFR mRWW hRW zenumerate
 have GRN:=Jq FRN GAN mAN kAN bAN
 have GRR:=Me FRR GFR mFR kFR bFR GSN mSN kSN bSN
 have GRE:=Aat FRE GRN mRN kRN bRN GRR mRR kRR bRR ZN GNT bNT mMR zisinstance zstr zrange zlen
 have GSR:=Mf FSR GNI mNI kNI bNI
 have GSH:=Xj FSH GSR mSR kSR bSR
 have GSS:=Ol FSS GNI mNI kNI bNI
 have GRS:=Og FRS GSN mSN kSN bSN OST zisinstance zstr
 have GHF:=Od (P:=l.prog) (w:=w) (base:=base) FHF zlen zzip zall
 have GFM:=Tg FFM GHF mHF kHF bHF mFMS hFM ONR
 have GWO:=Om (P:=l.prog) (w:=w) (base:=base) FWO ONR zisinstance zstr
 have GST:=Mg FST GSS mSS kSS bSS
 have GSC:=Oj FSC GCV mCV kCV bCV GSR mSR kSR bSR zlen
 have GPA:=Xh FPA GSS mSS kSS bSS zstr
 have GTO:=Aav FTO GSS mSS kSS bSS
 have GAW:=Td FAW GSH mSH kSH bSH GPA mPA kPA bPA GFO mFO kFO bFO GST mST kST bST GKY mKY kKY bKY GSC mSC kSC bSC GCI mCI kCI bCI GTO mTO kTO bTO zlen
 have GDX:=Ww FDI GRE mRE kRE bRE T
 have GDI:=GDX.calm2.weak Nl
 have GLM:=Aao (P:=l.prog) (w:=w) (base:=base) FLM OTM OST mMR T zlen
 have GDM:=Wv (P:=l.prog) (w:=w) (base:=base) FDM ONR T zlen zrange zstr
 have GSY:=Ac2 FSY GWO mWO kWO bWO GFM mFM kFM bFM GRS mRS kRS bRS GAW mAW kAW bAW (⟨aLM,iLM,kLM⟩:Meth K CD "let" fLM) GLM bLM (⟨aDM,iDM,kDM⟩:Meth K CD "drop" fDM) GDM bDM zzip fone T
 have GSX:FnOk l.prog w K mg base (CX1 l.prog w) 10 fSY _ ["self","row"] (Cr K CD (Lb CNR CST CCN CTM .row) (Lb CNR CST CCN CTM .set) (Lb CNR CST CCN CTM .cut) (Lb CNR CST CCN CTM .many)):=GSY
 have MS:Meth K CD "say" fSY:=⟨aSY,iSY,kSY⟩
 have MD:Mk K CD fDI:=⟨mkD,aDI,iDI,kcD⟩
 have GCD:=Tf (P:=l.prog) (w:=w) (base:=base) FCA zlen
 have GCA:=GCD.imp Si
 have GNA:=Xc (P:=l.prog) (w:=w) (base:=base) FNA zrange
 have GRU:=Tk (P:=l.prog) (w:=w) (mg:=mg) (base:=base) FRU
 have GLR:=Tj FLR GCA mCA kCA bCA GRU mRU kRU bRU zrange
 have GTB:=Xk FTB GCA mCA kCA bCA GNA mNA kNA bNA GLR mLR kLR bLR
 have GIX:=Aet (P:=l.prog) (w:=w) (base:=base) FIX zrange zlen
 have GLL:=Xa FLL GIX mIX kIX bIX
 have GLT:=Xb FLT GLL mLL kLL bLL
 have GSE:=Ac3 FSE GIX mIX kIX bIX
 have GXR:=Xf (P:=l.prog) (w:=w) (base:=base) FXR zlen zstr
 have GXS:=Xg (P:=l.prog) (w:=w) (mg:=mg) (base:=base) FXS
 have GXC:=Xe FXC GSE mSE kSE bSE zlen
 have GRO:=Ac1 FRO GXC mXC kXC bXC GXS mXS kXS bXS GXR mXR kXR bXR zlen
 have GKI:=Wy (ck:=Lb CNR CST CCN CTM) (P:=l.prog) (w:=w) (base:=base) FKI mKrow mKset mKcut mKmany mTX X4 zisinstance zint
 have GRF:=Oh (ck:=Lb CNR CST CCN CTM) FRF T MS GSX bSY GKI mKI kKI bKI X4 mZE zisinstance zValueError
 have GND:=Tl FND T MD GDX bDI mDK mTX xTX GX zlen
 exact Ac0 (ck:=Lb CNR CST CCN CTM) FQ GCA mCA kCA bCA GTB mTB kTB bTB GLT mLT kLT bLT GRO mRO kRO bRO GRF mRF kRF bRF GND mND kND bND T MS GSX.calm bSY MD GDI bDI mDK zrange
theorem walk {l:PySem.W.OpenLaw} {q:Program} {loose:List Str} {XP:(Str→Option Value)→Heap→Prop} {YP:World→Heap→Prop} {d:DefRec} {K:Params→PySem.W.Frag} (hn:l.most=some 63) (hdf:d.params.defaults=[])
  (hY:∀(w:World) (h:Heap),YP w h→(K w.params).In h)
  (F:∀(w:World) (mg:Str→Option Value) (fa:Addr) (h:Heap),(K w.params).In h→h.Ns mainGlobals mg→mg d.name=some (.ref fa)→
   ∃fd:FuncData,(∀(s:Shared) (u:Value),BindsTo s fd ⟨[u],[]⟩ [("_law_script",u)])∧∀base:Heap,(K w.params).In base→base.Ns mainGlobals mg→FnOk l.prog w (K w.params) mg base CX0 12 fa fd ["_law_script"] (Rm (K w.params))) :
  PySem.W.WalkO q loose XP YP l.row.toRowW d [] (fun f vs=>PySem.call f vs):=
 L2.walk_of (n:=63) (k:=12) (x:="_law_script") (CX:=fun _=>CX0) (sp:=fun w=>Rm (K w.params)) hn (by decide) hdf ⟨rfl,by decide,by decide⟩ hY F (fun _ _ a ns hl hO hS=>⟨a,ns,rfl,SqF.of hO hS,hl,fun _=>rfl⟩) fun _ _ _ _ _ z=>z
end Own
namespace PySem.W.Fast
def tw10386623083854013511:=True
def tw12290630928958649441:=True
def tw11388896329065025057:=True
def tw16772180864024507836:=True
def tw15973976601442159833:=True
def tw13800635540405800326:=True
def tw2439117439921556654:=True
def tw6276651553121244312:=True
def tw3019852198792752941:=True
def tw8679039663091371118:=True
def tw13114196681077842633:=True
def tw115049469054937134:=True
def tw17242680950718823633:=True
def tw14413876888446805853:=True
def tw18342024946275736554:=True
def tw10942971268754225707:=True
def tw15135106445997685445:=True
def tw9770990119876658289:=True
def tw1837420786013988303:=True
def tw5539130857114336686:=True
def tw6487738330694662959:=True
def tw9668804218216466417:=True
def tw7130627114940485219:=True
def tw2413835164678682657:=True
def tw6175641040980086103:=True
def tw2647213922704100195:=True
def tw15405570342321536801:=True
def tw8082763114591251220:=True
def tw9307003528352728920:=True
def tw2080923293730069599:=True
def tw8518382873791680486:=True
def tw12924044401260087797:=True
def tw1494463632520588427:=True
def tw3641489357366915102:=True
def tw16905171287365629502:=True
def tw4628126814686009701:=True
def tw2428091463873901274:=True
def tw7941971925870232487:=True
def tw1165160019908498012:=True
def tw5623899149816511479:=True
def tw4374770906885200565:=True
def tw13682334056190802196:=True
def tw5864124487239173115:=True
def tw10233181783190433135:=True
def tw11349609738215222901:=True
def tw14777118148007759278:=True
def tw11600265860692646101:=True
def tw1547342073603674350:=True
def tw577369141420834695:=True
def tw6907292797999010657:=True
def tw3400529552560212092:=True
def tw7760056556295653535:=True
def tw10960911995910766495:=True
def tw4792858573550897429:=True
def tw10842772451753979827:=True
def tw9006056502693016265:=True
def tw16704267428421494309:=True
def tw7457750911094986069:=True
def tw2498224642214889997:=True
def tw16318115610590881351:=True
def tw518077501431974040:=True
def tw10793934304046972533:=True
def tw865732092455459171:=True
def tw17241993041384751071:=True
def tw4195932292475379395:=True
def tw6829565689196268282:=True
def tw16549902293224878296:=True
def tw2936193967086827393:=True
def tw14735072619728349602:=True
def tw3395721924431333295:=True
def tw2094075352982434219:=True
def tw14319182968205373860:=True
def tw15213288681000919205:=True
def tw15567710730120702109:=True
def tw16764411540352599078:=True
def tw7151879893624681602:=True
def tw6234850182057885936:=True
def tw4900912839276695827:=True
def tw15329144476390457316:=True
def tw13380867378746390687:=True
def tw9762516310144322884:=True
def tw10796146926136925760:=True
def tw9107943998298512433:=True
def tw17402201908967759292:=True
def tw13313088080051581488:=True
def tw9831212123056225456:=True
def tw14196257486446752868:=True
def tw16865725904451128019:=True
def tw8031506064238260222:=True
def tw11425195921052829908:=True
def tw8287138822137777008:=True
def tw17944305754770813365:=True
def tw11794288316298916978:=True
def tw14164148349992798059:=True
def tw7317786686472980367:=True
def tw18405595929357785982:=True
def tw7209172940268902817:=True
def tw9343956085052427485:=True
def tw564731152562641980:=True
def tw5182867227754944825:=True
def tw13028582081745005714:=True
def tw15592052182086715881:=True
def tw16354852185747410494:=True
def tw16047186797697093567:=True
def tw5363145955002514847:=True
def tw14824797072273211708:=True
def tw17612193921625378268:=True
def tw125061221081303434:=True
def tw6074751557060123006:=True
def tw5839026243406373636:=True
def tw15621350014433411662:=True
def tw13373490807330120548:=True
def tw9345447200412940740:=True
def tw10315509592973279864:=True
def tw4146105012997686934:=True
def tw12362190786129858752:=True
def tw10462789058736459595:=True
def tw13104615025302318348:=True
def tw3797158778576718554:=True
def tw14956202628209225257:=True
def tw783715466388487355:=True
def tw18198018691506255795:=True
def tw4621605736324350184:=True
def tw2616962053262797043:=True
def tw16304991300011773748:=True
def tw11688922321519402579:=True
def tw17560290898073628275:=True
def tw12665625234590730998:=True
def tw9924888289709541099:=True
def tw17804906343865027252:=True
def tw1189678943715763266:=True
def tw15765266409360200696:=True
def tw11623925489352239729:=True
def tw2914363943990238842:=True
def tw18022622466647632970:=True
def tw15637727896815321524:=True
def tw293758897076916276:=True
def tw13943434842192682465:=True
def tw18151754618334236090:=True
def tw18395267913438406592:=True
def tw3343364438897271777:=True
def tw5484993507911212092:=True
def tw8908168726012580228:=True
def tw7759970084501526798:=True
def tw5355865126588957504:=True
def tw15727540737664258776:=True
def tw9214257156900718889:=True
def tw9502388946322421829:=True
def tw11169017328206970172:=True
def tw17342975582655823682:=True
def tw4300809662793287021:=True
def tw6243221023073787041:=True
def tw2527311375887682811:=True
def tw9367367384585194340:=True
def tw3958075631053523914:=True
def tw15239840078025104038:=True
def tw8718743006660820375:=True
def tw15035385478910412792:=True
def tw12442558156175125431:=True
def tw13740214661200298435:=True
def tw6857768357638115864:=True
def tw10180980835479047683:=True
def tw5630463415664051767:=True
def tw15079564792528786099:=True
def tw2535788245775661503:=True
def tw15075833953967887115:=True
def tw15441068323445843661:=True
def tw3090021321209114821:=True
def tw3742396948631028015:=True
def tw3445051676554213956:=True
def tw10325793039650064676:=True
def tw8985708769973362686:=True
def tw10450624097987686868:=True
def tw246791092536002309:=True
def tw15108740294122511489:=True
def tw13665267321665535669:=True
def tw6000936885251940641:=True
def tw2912489186668128593:=True
def tw4668076559241723430:=True
def tw16589825934083869745:=True
def tw3639250835631119660:=True
def tw13480643807881930007:=True
def tw12522146568272265723:=True
def tw16105016357630124331:=True
def tw8508697331124452695:=True
def tw3449680296365927915:=True
def tw15978845859598786057:=True
def tw14131092706715950746:=True
def tw9531638403061004170:=True
def tw11644623417227907494:=True
def tw7635577453466890357:=True
def tw11302391242576477355:=True
def tw8109381321230953005:=True
def tw16430685293634633292:=True
def tw14587297531461096917:=True
def tw437943838957092122:=True
def tw14481598621961053478:=True
def tw267083203895038909:=True
def tw4618199761664872291:=True
def tw1567854118248811423:=True
def tw16391267468967244246:=True
def tw6591135495559466056:=True
def tw16033572511522074188:=True
def tw15670482342881679728:=True
def tw15193854109620379039:=True
def tw10718286287522614065:=True
def tw13653114186623534486:=True
def tw17512887070088325793:=True
def tw1705624605331859120:=True
def tw8694714130899886:=True
def tw16209631013540064850:=True
def tw13423668321208308960:=True
def tw12447060565266200327:=True
def tw2542354654659064052:=True
def tw13793055509668003808:=True
def tw11163085674428327370:=True
def tw2190535705741332074:=True
def tw4002048740829616411:=True
def tw16420007493325380063:=True
def tw2933925739334361630:=True
def tw5857984599258925864:=True
def tw16693509816033857307:=True
def tw14379583827960918862:=True
def tw13895452853529907268:=True
def tw10021856887523715262:=True
def tw14374907208718670044:=True
def tw10316719608943044997:=True
def tw6474736923398365602:=True
def tw15714779528329646431:=True
def tw4318802119048172190:=True
def tw3878784183169688261:=True
def tw4227003563858312997:=True
def tw12479297907801702150:=True
def tw4397372015412668842:=True
def tw16925928421155009055:=True
def tw817549645917350107:=True
def tw7388783499695255027:=True
end PySem.W.Fast
open PySem PySem.W PyProof.Rows
set_option maxRecDepth 100000 in
set_option maxHeartbeats 0 in
theorem PySem.Challenge.cw_splithouse_k85_a_desk_refuses_holds : PySem.Challenge.rw_splithouse_k85_a_desk_refuses.Holds := by
  w_on; o_law; k_head; (case hw=>w_witness2)
  k_fill
  refine Own.walk (l:=PySem.Challenge.rw_splithouse_k85_a_desk_refuses) rfl rfl (fun w h Y=>PySem.W.kIn_of Y) ?F
  case F=>
    intro w mg fa h KX G hmg
    refine' Own.all_mk KX G hmg ?dH ?dC ?dAL ?dIW ?dMO ?dSW ?dCU ?dI ?dUD ?dBG ?dFU ?dUN ?dBR ?dFO ?dDF ?dSL ?dSG ?dLE ?dNE ?dCV ?dCI ?dHO ?dKY ?dISN ?dAN ?dSN ?dNI ?dFR ?dRN ?dRR ?dRE ?dSR ?dSH ?dSS ?dRS ?dHF ?dFM ?dWO ?dST ?dSC ?dPA ?dTO ?dAW ?dCA ?dNA ?dRU ?dLR ?dTB ?dIX ?dLL ?dLT ?dSE ?dXR ?dXS ?dXC ?dRO ?dKI ?dRF ?dND ?dQ ?aLN ?aMC ?aMR ?yqNR ?yqST ?yqCN ?yqTM ?yqTX ?yqZE ?yeNR ?yeST ?yeCN ?yeTM ?yeZE ?gO ?tO ?ypNR ?ynNR ?ysNR ?yhNR ?yfNR ?yrNR ?ypST ?ynST ?ysST ?yhST ?yfST ?yrST ?ypCN ?ynCN ?ysCN ?yhCN ?yfCN ?yrCN ?ypTM ?ynTM ?ysTM ?yhTM ?yfTM ?yrTM ?ypTX ?ynTX ?ysTX ?yhTX ?yfTX ?yrTX ?yxNR ?yvNR ?ywNR ?yoNRNR ?yoNRST ?yoNRCN ?yoNRTM ?yxST ?yvST ?ywST ?yoSTNR ?yoSTST ?yoSTCN ?yoSTTM ?yxCN ?yvCN ?ywCN ?yoCNNR ?yoCNST ?yoCNCN ?yoCNTM ?yxTM ?yvTM ?ywTM ?yoTMNR ?yoTMST ?yoTMCN ?yoTMTM ?xTX ?lTX ?owTX ?fiTX ?fnTX ?saTX ?nlTX ?rdTX ?ciTX ?gaTX ?kpTX ?lNT ?lDT ?cNT ?aLE ?aRWW ?lRWW ?aFM ?lFM ?lF0 ?lF1 ?lF2 ?lF3 ?lF4 ?lF5 ?lF6 ?lF7 ?lF8 ?lF9 ?lF10 ?lF11 ?aDK ?pgD ?hdD ?poD ?saD ?mkD ?kcD ?nND ?nRD ?aDI ?iDI ?lDI ?cDI ?kDI ?aSY ?iSY ?lSY ?cSY ?kSY ?aLM ?iLM ?lLM ?cLM ?kLM ?aDM ?iDM ?lDM ?cDM ?kDM ?zlen ?zrange ?zenumerate ?zlist ?zint ?zisinstance ?zstr ?zsorted ?zany ?zall ?zset ?zzip ?zValueError
    (case dC | dAL | dSW | dI | dSG | dISN | dAN | dFR | dRN | dRE | dFM | dWO | dKI | dQ=>refine' Own.df_mk KX G ?a ?l ?c ?k (fun _ _ _ _ _ _ us hl=>by obtain ⟨_,rfl⟩:=Own.v1 hl; rfl); (case a=>k_is); (case l=>k_is); (case c=>k_is); (case k=>k_is))
    (case dH | dIW | dMO | dCU | dBG | dFU | dBR | dLE | dNE | dCV | dHO | dKY | dSN | dNI | dRR | dSR | dSH | dSS | dRS | dHF | dST | dSC | dPA | dCA | dNA | dRU | dLR | dTB | dIX | dLL | dLT | dSE=>refine' Own.df_mk KX G ?a ?l ?c ?k (fun _ _ _ _ _ _ us hl=>by obtain ⟨_,_,rfl⟩:=Own.v2 hl; rfl); (case a=>k_is); (case l=>k_is); (case c=>k_is); (case k=>k_is))
    (case dUN | dFO | dDF | dSL | dTO | dXR | dXS | dXC | dRO | dRF | dND=>refine' Own.df_mk KX G ?a ?l ?c ?k (fun _ _ _ _ _ _ us hl=>by obtain ⟨_,_,_,rfl⟩:=Own.v3 hl; rfl); (case a=>k_is); (case l=>k_is); (case c=>k_is); (case k=>k_is))
    (case dUD | dCI | dAW=>refine' Own.df_mk KX G ?a ?l ?c ?k (fun _ _ _ _ _ _ us hl=>by obtain ⟨_,_,_,_,rfl⟩:=Own.v4 hl; rfl); (case a=>k_is); (case l=>k_is); (case c=>k_is); (case k=>k_is))
    (case aLN|aMC|aMR|yqNR|yqST|yqCN|yqTM|yqTX|yqZE=>k_is)
    (case yeNR=>k_exc)
    (case yeST=>k_exc)
    (case yeCN=>k_exc)
    (case yeTM=>k_exc)
    (case yeZE=>k_exc)
    (case gO|tO|ypNR|ynNR|ysNR|yhNR|yfNR|yrNR|ypST|ynST|ysST|yhST|yfST|yrST|ypCN|ynCN|ysCN|yhCN|yfCN|yrCN|ypTM|ynTM|ysTM|yhTM|yfTM|yrTM|ypTX|ynTX|ysTX|yhTX|yfTX|yrTX=>k_is)
    (case yxNR=>kts_exm)
    (case yvNR=>kit_is)
    (case ywNR=>kit_is)
    (case yoNRNR=>kit_is)
    (case yoNRST=>kit_is)
    (case yoNRCN=>kit_is)
    (case yoNRTM=>kit_is)
    (case yxST=>kts_exm)
    (case yvST=>kit_is)
    (case ywST=>kit_is)
    (case yoSTNR=>kit_is)
    (case yoSTST=>kit_is)
    (case yoSTCN=>kit_is)
    (case yoSTTM=>kit_is)
    (case yxCN=>kts_exm)
    (case yvCN=>kit_is)
    (case ywCN=>kit_is)
    (case yoCNNR=>kit_is)
    (case yoCNST=>kit_is)
    (case yoCNCN=>kit_is)
    (case yoCNTM=>kit_is)
    (case yxTM=>kts_exm)
    (case yvTM=>kit_is)
    (case ywTM=>kit_is)
    (case yoTMNR=>kit_is)
    (case yoTMST=>kit_is)
    (case yoTMCN=>kit_is)
    (case yoTMTM=>kit_is)
    (case xTX=>kts_exm)
    (case lTX|owTX|fiTX|fnTX|saTX|nlTX|rdTX|ciTX|gaTX|kpTX|lNT|lDT|cNT|aLE|aRWW|lRWW|aFM|lFM|lF0|lF1|lF2|lF3|lF4|lF5|lF6|lF7|lF8|lF9|lF10|lF11|aDK|pgD|hdD|poD|saD|mkD|kcD|nND|nRD|aDI|iDI|lDI|cDI|kDI|aSY|iSY|lSY|cSY|kSY|aLM|iLM|lLM|cLM|kLM|aDM|iDM|lDM|cDM|kDM=>k_is)
    (case zlen | zrange | zenumerate | zlist | zint | zisinstance | zstr | zsorted | zany | zall | zset | zzip | zValueError=>refine PySem.W.mg_none_of KX G ?y; (case y=>k_is))

